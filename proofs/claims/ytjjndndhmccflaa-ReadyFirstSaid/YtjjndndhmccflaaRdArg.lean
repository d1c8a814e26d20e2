/-
  What the arguments of ready's laws are, as the row reads them: an entry, rows of entries and of acts.
-/
import Derived.Test.YtjjndndhmccflaaRdMap
import Derived.Test.YtjjndndhmccflaaOpen
import Derived.Lib.SmallJoins
import Derived.Deep.Slices
namespace Go.Proofs.Ytjjndndhmccflaa
set_option maxRecDepth 100000
open Go.ChangeShapes Go.WideShapes Go.ChangeAt Go.RowKit
theorem nm_of {n : Int} (h : (Lit.int .i64 n).wf = true) : Nm n := by
  rw [Lit.wf, Bool.and_eq_true, decide_eq_true_eq, decide_eq_true_eq] at h
  exact h
section
variable {H : Type} {enc : TypeId × Value → H} {W : World} {n : Nat}
theorem sized_field {P : Program} {ts : List TypeId} {ds : List (DataW H)} (h : (DataW.weightsEach P ts ds).all (· ≤ reachBytes) = true) {j i : Nat} {t : TypeId} {fs : Array Field} {f : Field} {parts : List (DataW H)} {b : List UInt8}
    (ht : ts[j]? = some t) (hd : ds[j]? = some (.agg parts)) (hu : P.underlying t = some (.struct fs)) (hf : fs[i]? = some f) (hp : parts[i]? = some (.lit (.string b))) : b.length ≤ 140737488355328 := by
  have hm : b.length ∈ DataW.weightsEach P (fs.toList.map (·.type)) parts := DataW.weights_mem_each (j := i) (t := f.type) (by rw [List.getElem?_map, Array.getElem?_toList, hf]; rfl) hp _ (by simp [DataW.weights])
  have := List.all_eq_true.1 h _ (DataW.weights_mem_each ht hd b.length (by simp only [DataW.weights, hu]; exact hm))
  have h3 := reachBytes_lt
  have : b.length ≤ reachBytes := by simpa using this
  omega
theorem fld_int {c : Value} {o : Option (DataW H × List MemPlace)} (h : DataW.trod enc Try.prog W 0 (fun _ => true) true n 3 [c] = o) (ho : o.isSome = true) : ∃ b, c = .int .i64 b ∧ Nm b := by
  obtain ⟨y, rfl⟩ := Option.isSome_iff_exists.1 ho
  obtain ⟨b, e, _, z⟩ := DataW.trod_int Try.underlying3 h
  injection e with e
  exact ⟨b, e, nm_of z⟩
theorem fld_str {c : Value} {o : Option (DataW H × List MemPlace)} (h : DataW.trod enc Try.prog W 0 (fun _ => true) true n 9 [c] = o) (ho : o.isSome = true) : ∃ l : Txt, c = .string (mkS l) ∧ o = some (.lit (.string l), []) := by
  obtain ⟨y, rfl⟩ := Option.isSome_iff_exists.1 ho
  obtain ⟨s, e, ey, _⟩ := DataW.trod_string Try.underlying9 h
  injection e with e
  obtain ⟨l, rfl⟩ := mkS_of s
  exact ⟨l, e, by rw [ey, mkS_data]⟩
end
abbrev etV (x : Et) : Value := .agg #[.int .i64 x.id, .string (mkS x.dest), .int .i64 x.pri, .int .i64 x.at_]
theorem arg_entry {H : Type} {enc : TypeId × Value → H} {W : World} {base : Nat} {v : Value} {d : DataW H} {p : List MemPlace} {ts : List TypeId} {ds : List (DataW H)} {j : Nat} (hv : Value.okWide Try.prog W .any base 34 v) (h : DataW.Trod enc Try.prog W 0 (fun _ => true) true 34 v d p)
    (hsz : (DataW.weightsEach Try.prog ts ds).all (· ≤ reachBytes) = true) (ht : ts[j]? = some 34) (hd : ds[j]? = some d) :
    ∃ x : Et, v = etV x ∧ Nm x.id ∧ x.dest.length ≤ 140737488355328 := by
  obtain ⟨v0, v1, v2, v3, y0, y1, y2, y3, n, rfl, rfl, _, h0, h1, h2, h3⟩ := Joins.open_agg4 Try.underlying34 (by kernel_rfl) (by kernel_rfl) hv h
  obtain ⟨k0, rfl, z0⟩ := fld_int h0 rfl
  obtain ⟨l1, rfl, z1⟩ := fld_str h1 rfl
  obtain ⟨k2, rfl, _⟩ := fld_int h2 rfl
  obtain ⟨k3, rfl, _⟩ := fld_int h3 rfl
  injection z1 with z1
  subst z1
  exact ⟨⟨k0, l1, k2, k3⟩, rfl, z0, sized_field (i := 1) hsz ht hd Try.underlying34 rfl rfl⟩
theorem add_off (a : Addr) (k j : Nat) (hj : 0 < j) : a.add (k + j) = ⟨(a.add k).block, (a.add k).off + j, none⟩ := by
  obtain ⟨i, rfl⟩ : ∃ i, j = i + 1 := ⟨j - 1, by omega⟩
  unfold Addr.add
  split
  · rename_i h; omega
  · split
    · rename_i h; subst h; simp
    · simp [Nat.add_assoc]
/-- An entry's four cells, from an address on. -/
structure EtAt (w : World) (A : Addr) (x : Et) : Prop where
  lt : A.block < w.heap.size
  c0 : w.cell? A = some (.int .i64 x.id)
  c1 : w.cell? ⟨A.block, A.off + 1, none⟩ = some (.string (mkS x.dest))
  c2 : w.cell? ⟨A.block, A.off + 2, none⟩ = some (.int .i64 x.pri)
  c3 : w.cell? ⟨A.block, A.off + 3, none⟩ = some (.int .i64 x.at_)
  idr : Nm x.id
theorem EtAt.below {w w' : World} {B : Nat} {A : Addr} {x : Et} (h : EtAt w A x) (hb : Below B w w') (hB : A.block < B) : EtAt w' A x :=
  ⟨Nat.lt_of_lt_of_le h.lt hb.size, (hb.cell (p := A) hB).trans h.c0, (hb.cell (p := ⟨A.block, A.off + 1, none⟩) hB).trans h.c1, (hb.cell (p := ⟨A.block, A.off + 2, none⟩) hB).trans h.c2, (hb.cell (p := ⟨A.block, A.off + 3, none⟩) hB).trans h.c3, h.idr⟩
def EtsAt (w : World) (v : Value) (l : List Et) : Prop := ∃ (a : Option Addr) (cap : Nat), v = .slice a l.length cap ∧ l.length ≤ cap ∧ ∀ i c, l[i]? = some c → ∃ A, a = some A ∧ A.block < w.heap.size ∧ EtAt w (A.add (i * 4)) c
theorem EtsAt.below {w w' : World} {v : Value} {l : List Et} (h : EtsAt w v l) (hb : Below w.heap.size w w') : EtsAt w' v l := by
  obtain ⟨a, cap, hv, hc, hx⟩ := h
  refine ⟨a, cap, hv, hc, fun i c hi => ?_⟩
  obtain ⟨A, hA, hl, hat⟩ := hx i c hi
  exact ⟨A, hA, Nat.lt_of_lt_of_le hl hb.size, hat.below hb hat.lt⟩
theorem arg_entries {H : Type} {enc : TypeId × Value → H} {W : World} {base : Nat} {v : Value} {d : DataW H} {p : List MemPlace} (hv : Value.okWide Try.prog W .any base 56 v) (h : DataW.Trod enc Try.prog W 0 (fun _ => true) true 56 v d p) :
    ∃ l : List Et, EtsAt W v l := by
  obtain ⟨a0, len, cap, rfl⟩ := okWide_slice Try.underlying56 hv
  obtain ⟨fuel, hf⟩ := h
  rcases Go.Deep.open_slice Try.underlying56 hf with ⟨hcs, _⟩ | ⟨a, len', cap', m, n, D, Pl, hcs, _, hl, _, hm, _, hx⟩
  · simp [Value.cells] at hcs
    obtain ⟨rfl, rfl, rfl⟩ := hcs
    exact ⟨[], none, 0, rfl, Nat.le_refl _, fun i c hi => by simp at hi⟩
  · simp [Value.cells] at hcs
    obtain ⟨rfl, rfl, rfl⟩ := hcs
    have hlm : len ≤ m := by rw [hm]; simp; exact hl
    have c4 : Try.prog.cellsOf 34 = 4 := by kernel_rfl
    have key : ∀ i, i < len → ∃ q : Et, EtAt W (a.add (i * 4)) q := by
      intro i hi
      obtain ⟨cs', h1, h2⟩ := hx i (by omega)
      rw [c4] at h1
      obtain ⟨_, hlen, hcell⟩ := World.cells?_some h1
      obtain ⟨y0, y1, y2, y3, n1, _, _, t0, t1, t2, t3⟩ := Go.Joins.trod_struct4 Try.underlying34 h2
      match cs', hlen with
      | [v0, v1, v2, v3], _ =>
        have t0' : DataW.trod enc Try.prog W 0 (fun _ => true) true n1 3 [v0] = some y0 := t0
        have t1' : DataW.trod enc Try.prog W 0 (fun _ => true) true n1 9 [v1] = some y1 := t1
        have t2' : DataW.trod enc Try.prog W 0 (fun _ => true) true n1 3 [v2] = some y2 := t2
        have t3' : DataW.trod enc Try.prog W 0 (fun _ => true) true n1 3 [v3] = some y3 := t3
        obtain ⟨k0, rfl, z0⟩ := fld_int t0' rfl
        obtain ⟨l1, rfl, _⟩ := fld_str t1' rfl
        obtain ⟨k2, rfl, _⟩ := fld_int t2' rfl
        obtain ⟨k3, rfl, _⟩ := fld_int t3' rfl
        have a0 := hcell 0 (by decide)
        exact ⟨⟨k0, l1, k2, k3⟩, World.block_lt_of_cell? W (a.add (i * 4)) a0, a0, hcell 1 (by decide), hcell 2 (by decide), hcell 3 (by decide), z0⟩
    have key2 : ∃ f : Nat → Et, ∀ i, i < len → EtAt W (a.add (i * 4)) (f i) := by
      refine ⟨fun i => if h : i < len then (key i h).choose else default, fun i hi => ?_⟩
      simp only [hi, dif_pos]
      exact (key i hi).choose_spec
    obtain ⟨f, hfi⟩ := key2
    refine ⟨(List.range len).map f, some a, cap, by simp, by simpa using hl, fun i c hi => ?_⟩
    rw [List.getElem?_map] at hi
    obtain ⟨j, hj, rfl⟩ := Option.map_eq_some_iff.1 hi
    obtain ⟨hlt, e⟩ := List.getElem?_eq_some_iff.1 hj
    simp at hlt e
    subst e
    have hb := (hfi i hlt).lt
    rw [add_block] at hb
    exact ⟨a, rfl, hb, hfi i hlt⟩
structure Ac where
  kind : Int
  id : Int
  now : Int
  x : Et
/-- An act's seven cells, from an address on. -/
structure AcAt (w : World) (A : Addr) (c : Ac) : Prop where
  lt : A.block < w.heap.size
  c0 : w.cell? A = some (.int .i64 c.kind)
  c1 : w.cell? ⟨A.block, A.off + 1, none⟩ = some (.int .i64 c.id)
  c2 : w.cell? ⟨A.block, A.off + 2, none⟩ = some (.int .i64 c.now)
  c3 : w.cell? ⟨A.block, A.off + 3, none⟩ = some (.int .i64 c.x.id)
  c4 : w.cell? ⟨A.block, A.off + 4, none⟩ = some (.string (mkS c.x.dest))
  c5 : w.cell? ⟨A.block, A.off + 5, none⟩ = some (.int .i64 c.x.pri)
  c6 : w.cell? ⟨A.block, A.off + 6, none⟩ = some (.int .i64 c.x.at_)
  idr : Nm c.id
  xr : Nm c.x.id
theorem AcAt.below {w w' : World} {B : Nat} {A : Addr} {x : Ac} (h : AcAt w A x) (hb : Below B w w') (hB : A.block < B) : AcAt w' A x :=
  ⟨Nat.lt_of_lt_of_le h.lt hb.size, (hb.cell (p := A) hB).trans h.c0, (hb.cell (p := ⟨A.block, A.off + 1, none⟩) hB).trans h.c1, (hb.cell (p := ⟨A.block, A.off + 2, none⟩) hB).trans h.c2, (hb.cell (p := ⟨A.block, A.off + 3, none⟩) hB).trans h.c3, (hb.cell (p := ⟨A.block, A.off + 4, none⟩) hB).trans h.c4, (hb.cell (p := ⟨A.block, A.off + 5, none⟩) hB).trans h.c5, (hb.cell (p := ⟨A.block, A.off + 6, none⟩) hB).trans h.c6, h.idr, h.xr⟩
def ActsAt (w : World) (v : Value) (l : List Ac) : Prop := ∃ (a : Option Addr) (cap : Nat), v = .slice a l.length cap ∧ l.length ≤ cap ∧ ∀ i c, l[i]? = some c → ∃ A, a = some A ∧ A.block < w.heap.size ∧ AcAt w (A.add (i * 7)) c
theorem ActsAt.below {w w' : World} {v : Value} {l : List Ac} (h : ActsAt w v l) (hb : Below w.heap.size w w') : ActsAt w' v l := by
  obtain ⟨a, cap, hv, hc, hx⟩ := h
  refine ⟨a, cap, hv, hc, fun i c hi => ?_⟩
  obtain ⟨A, hA, hl, hat⟩ := hx i c hi
  exact ⟨A, hA, Nat.lt_of_lt_of_le hl hb.size, hat.below hb hat.lt⟩
theorem arg_acts {H : Type} {enc : TypeId × Value → H} {W : World} {base : Nat} {v : Value} {d : DataW H} {p : List MemPlace} (hv : Value.okWide Try.prog W .any base 22 v) (h : DataW.Trod enc Try.prog W 0 (fun _ => true) true 22 v d p) :
    ∃ l : List Ac, ActsAt W v l := by
  obtain ⟨a0, len, cap, rfl⟩ := okWide_slice Try.underlying22 hv
  obtain ⟨fuel, hf⟩ := h
  rcases Go.Deep.open_slice Try.underlying22 hf with ⟨hcs, _⟩ | ⟨a, len', cap', m, n, D, Pl, hcs, _, hl, _, hm, _, hx⟩
  · simp [Value.cells] at hcs
    obtain ⟨rfl, rfl, rfl⟩ := hcs
    exact ⟨[], none, 0, rfl, Nat.le_refl _, fun i c hi => by simp at hi⟩
  · simp [Value.cells] at hcs
    obtain ⟨rfl, rfl, rfl⟩ := hcs
    have hlm : len ≤ m := by rw [hm]; simp; exact hl
    have c7 : Try.prog.cellsOf 36 = 7 := by kernel_rfl
    have key : ∀ i, i < len → ∃ q : Ac, AcAt W (a.add (i * 7)) q := by
      intro i hi
      obtain ⟨cs', h1, h2⟩ := hx i (by omega)
      rw [c7] at h1
      obtain ⟨_, hlen, hcell⟩ := World.cells?_some h1
      obtain ⟨y0, y1, y2, y3, n1, _, _, t0, t1, t2, t3⟩ := Go.Joins.trod_struct4 Try.underlying36 h2
      match cs', hlen with
      | [v0, v1, v2, v3, v4, v5, v6], _ =>
        have t0' : DataW.trod enc Try.prog W 0 (fun _ => true) true n1 3 [v0] = some y0 := t0
        have t1' : DataW.trod enc Try.prog W 0 (fun _ => true) true n1 3 [v1] = some y1 := t1
        have t2' : DataW.trod enc Try.prog W 0 (fun _ => true) true n1 3 [v2] = some y2 := t2
        have t3' : DataW.trod enc Try.prog W 0 (fun _ => true) true n1 34 [v3, v4, v5, v6] = some y3 := t3
        obtain ⟨x0, x1, x2, x3, n2, _, _, u0, u1, u2, u3⟩ := Go.Joins.trod_struct4 Try.underlying34 t3'
        have u0' : DataW.trod enc Try.prog W 0 (fun _ => true) true n2 3 [v3] = some x0 := u0
        have u1' : DataW.trod enc Try.prog W 0 (fun _ => true) true n2 9 [v4] = some x1 := u1
        have u2' : DataW.trod enc Try.prog W 0 (fun _ => true) true n2 3 [v5] = some x2 := u2
        have u3' : DataW.trod enc Try.prog W 0 (fun _ => true) true n2 3 [v6] = some x3 := u3
        obtain ⟨k0, rfl, _⟩ := fld_int t0' rfl
        obtain ⟨k1, rfl, z1⟩ := fld_int t1' rfl
        obtain ⟨k2, rfl, _⟩ := fld_int t2' rfl
        obtain ⟨k3, rfl, z3⟩ := fld_int u0' rfl
        obtain ⟨l4, rfl, _⟩ := fld_str u1' rfl
        obtain ⟨k5, rfl, _⟩ := fld_int u2' rfl
        obtain ⟨k6, rfl, _⟩ := fld_int u3' rfl
        have a0 := hcell 0 (by decide)
        exact ⟨⟨k0, k1, k2, ⟨k3, l4, k5, k6⟩⟩, World.block_lt_of_cell? W (a.add (i * 7)) a0, a0, hcell 1 (by decide), hcell 2 (by decide), hcell 3 (by decide), hcell 4 (by decide), hcell 5 (by decide), hcell 6 (by decide), z1, z3⟩
    have key2 : ∃ f : Nat → Ac, ∀ i, i < len → AcAt W (a.add (i * 7)) (f i) := by
      refine ⟨fun i => if h : i < len then (key i h).choose else ⟨0, 0, 0, default⟩, fun i hi => ?_⟩
      simp only [hi, dif_pos]
      exact (key i hi).choose_spec
    obtain ⟨f, hfi⟩ := key2
    refine ⟨(List.range len).map f, some a, cap, by simp, by simpa using hl, fun i c hi => ?_⟩
    rw [List.getElem?_map] at hi
    obtain ⟨j, hj, rfl⟩ := Option.map_eq_some_iff.1 hi
    obtain ⟨hlt, e⟩ := List.getElem?_eq_some_iff.1 hj
    simp at hlt e
    subst e
    have hb := (hfi i hlt).lt
    rw [add_block] at hb
    exact ⟨a, rfl, hb, hfi i hlt⟩
end Go.Proofs.Ytjjndndhmccflaa
