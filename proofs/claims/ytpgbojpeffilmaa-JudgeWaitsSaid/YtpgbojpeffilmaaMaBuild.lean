/-
  Base · Bytes · Build · BuildByte · BuildGrow · BuildStr · Blk, in one text.
-/
import Derived.Test.YtpgbojpeffilmaaProg
import Derived.Test.YtpgbojpeffilmaaRows
import Derived.WalkKit
import Derived.WalkSpells
import Derived.WalkLawsBesides
import Derived.Deep.QuietTactic
import Derived.BigQuiet
import Derived.StillTailTactics
import Derived.Lib.Hide
import Derived.Maps.AppendAt
import Derived.Deep.AppendLies
import Derived.Deep.RegionWith
import Derived.Deep.RegionHeld3
import Derived.Deep.DeepFit
import Derived.Deep.LoopGhost
import Derived.IntWalk
import Derived.Lib.Strings
import Derived.Lib.IndexBytes
import Derived.Laws.BytesString
import Derived.Shelf.Strings.Search1
import Derived.Shelf.Strings.Search2
import Derived.Shelf.Strings.Search3
import Derived.Shelf.LaysM
import Derived.Shelf.Strings.Shaped
import Derived.Shelf.Strings.BuilderK
import Derived.Lib.FrozenHead2
import Derived.Deep.MidRow
import Derived.Laws.ResultCell
/-
  What every walk of this seat uses: texts as lists of bytes, blocks known whole, answers, bytes against numbers.
-/
namespace Go.Proofs.Ytpgbojpeffilmaa
set_option maxRecDepth 100000
open Go.RowKit

/-- A text of these bytes. -/
def mkS (t : List UInt8) : ByteArray := ⟨t.toArray⟩
theorem ba_eq {p q : ByteArray} (h : p.toList = q.toList) : p = q := by
  rw [Lib.toList_data, Lib.toList_data] at h
  cases p; cases q
  rw [ByteArray.mk.injEq]
  exact Array.toList_inj.1 h
theorem ba_ne {p q : ByteArray} (h : p ≠ q) : (p.toList == q.toList) = false := beq_eq_false_iff_ne.2 fun e => h (ba_eq e)
theorem mkS_nil : mkS [] = { data := #[] } := rfl
theorem mkS_size (l : List UInt8) : (mkS l).size = l.length := by simp [mkS, ByteArray.size]
theorem mkS_data (l : List UInt8) : (mkS l).data.toList = l := by simp [mkS]
theorem mkS_toList (t : List UInt8) : (mkS t).toList = t := by rw [Lib.toList_data]; simp [mkS]
theorem mkS_of (b : ByteArray) : ∃ l, b = mkS l := ⟨b.data.toList, by cases b; simp [mkS]⟩
theorem mkS_cat (a b : List UInt8) : mkS a ++ mkS b = mkS (a ++ b) := by
  show ByteArray.append _ _ = _
  apply ba_eq
  rw [Lib.toList_data, mkS_toList]
  simp [mkS]
theorem mkS_eqb (a b : List UInt8) : ((mkS a).toList == (mkS b).toList) = (a == b) := by rw [mkS_toList, mkS_toList]
theorem mkS_extract (s : List UInt8) (a b : Nat) : (mkS s).extract a b = mkS ((s.take b).drop a) := by
  apply ba_eq
  rw [mkS_toList, Lib.toList_data, ByteArray.data_extract, Array.toList_extract]
  simp [mkS, List.extract, List.drop_take]
theorem mkS_get {l : List UInt8} {i : Nat} {x : UInt8} (h : i < (mkS l).size) (hx : l[i]? = some x) : (mkS l)[i]'h = x := by
  have e := Lib.data_getElem? (mkS l) i h
  rw [mkS_data, hx] at e
  injection e with e
  exact e.symm

theorem byte_eq {b : UInt8} {n : Nat} (hn : n < 256) : (((b.toNat : Int) == (n : Int)) = true) ↔ b = UInt8.ofNat n := by
  rw [beq_iff_eq]
  constructor
  · intro h
    have h' : b.toNat = n := by omega
    exact UInt8.toNat_inj.1 (by rw [h']; simp; omega)
  · rintro rfl
    simp; omega
theorem byte_lt (b : UInt8) : b.toNat < 256 := b.toNat_lt
theorem byte_of (b : UInt8) : ((b.toNat : Int)).toNat.toUInt8 = b := by simp

theorem ret_bool {a b : Bool} (h : a = b) : Ending.returned (.bool a) = .returned (.bool b) := by rw [h]
theorem ret_int {k : IntKind} {a b : Int} (h : a = b) : Ending.returned (.int k a) = .returned (.int k b) := by rw [h]
theorem ret_str {a b : ByteArray} (h : a = b) : Ending.returned (.string a) = .returned (.string b) := by rw [h]

theorem cellOf {w : World} {g : Nat} {cs : Array Value} {t : TypeId} {fz : Nat × Nat} (h : w.heap[g]? = some (.cells cs t fz)) (i : Nat) : w.cell? ⟨g, i, none⟩ = cs[i]? := by simp [World.cell?, h]
theorem freeOf {w : World} {g : Nat} {cs : Array Value} {t : TypeId} (h : w.heap[g]? = some (.cells cs t (0, 0))) (i : Nat) : w.frozen? ⟨g, i, none⟩ = false := by simp [World.frozen?, h]
theorem setOf {w : World} {g : Nat} {cs : Array Value} {t : TypeId} {fz : Nat × Nat} (h : w.heap[g]? = some (.cells cs t fz)) (i : Nat) (u : Value) : (w.setCell ⟨g, i, none⟩ u).heap[g]? = some (.cells (cs.setIfInBounds i u) t fz) := by
  simp [World.setCell, Array.getElem?_modify, h]
theorem ltOf {w : World} {g : Nat} {o : Obj} (h : w.heap[g]? = some o) : g < w.heap.size := by
  rcases Nat.lt_or_ge g w.heap.size with hl | hl
  · exact hl
  · rw [Array.getElem?_eq_none hl] at h; cases h
theorem newOf (w : World) (o : Obj) : (w.alloc o).heap[w.heap.size]? = some o := heap_alloc_new w o
theorem grownOf {w w' : World} {row : Option Nat} {g : Nat} {o : Obj} (h : w.heap[g]? = some o) (k : w.grownBy w' row) (hne : some g ≠ row) : w'.heap[g]? = some o := (k.block g (ltOf h) hne).trans h
theorem grown_drew {w w' : World} {row : Option Nat} (h : w.drew.grownBy w' row) : w.grownBy w' row := ⟨h.os, h.tape, h.output, h.size, h.block⟩
theorem belowOf {w w' : World} {B g : Nat} {o : Obj} (h : w.heap[g]? = some o) (k : Below B w w') (hg : g < B) : w'.heap[g]? = some o := (k.block g hg).trans h
theorem add_block (a : Addr) (n : Nat) : (a.add n).block = a.block := by unfold Addr.add; split <;> rfl
theorem below_drewN {B : Nat} {a w : World} (h : Below B a w) (n : Nat) : Below B a (w.drewN n) := ⟨h.os, h.tape, h.output, h.size, h.block⟩
/-- What a call leaves, behind what stood. -/
theorem below_next {w0 w w' : World} (h : Below w0.heap.size w0 w) (k : Below w.heap.size w w') : Below w0.heap.size w0 w' := h.trans (k.mono h.size)
theorem below_fresh {w0 w w' : World} (h : Below w0.heap.size w0 w) {o : Obj} (k : Below (w.alloc o).heap.size (w.alloc o) w') : Below w0.heap.size w0 w' :=
  (h.alloc h.size o).trans (k.mono (by have := h.size; simp; omega))
theorem bcell {W w1 : World} (hb : Below W.heap.size W w1) : (∀ b o, b < W.heap.size → w1.cell? ⟨b, o, none⟩ = W.cell? ⟨b, o, none⟩) ∧ (∀ b o, b < W.heap.size → w1.frozen? ⟨b, o, none⟩ = W.frozen? ⟨b, o, none⟩) :=
  ⟨fun b o h => hb.cell (p := ⟨b, o, none⟩) h, fun b o h => hb.frozen (p := ⟨b, o, none⟩) h⟩
/-- A call that leaves the world alone, behind draws that have been joined. -/
theorem quiet_more {P : Program} {f : FuncId} {args : Array Value} {w : World} {a n : Nat} {v : Value} (h : Calls P f args (w.drewN (a + n)) fun e w' => e = .returned v ∧ w' = w.drewN (a + n)) :
    Calls P f args (w.drewN (a + n)) fun e w' => e = .returned v ∧ ∃ m, w' = w.drewN (a + m) := h.mono fun _ _ ⟨he, hw⟩ => ⟨he, n, hw⟩
/-- A call that leaves the world alone, its world spelled as the walk has it. -/
theorem still {P : Program} {f : FuncId} {args : Array Value} {w : World} {v : Value} (h : Calls P f args w fun e w' => e = .returned v ∧ w = w') :
    Calls P f args w fun e w' => e = .returned v ∧ w' = w := h.mono fun _ _ ⟨he, hw⟩ => ⟨he, hw.symm⟩

theorem own_slice {w : World} {B : Nat} {e : TypeId} {size n : Nat} {v : Value} {xs : List Value} (h : w.ownsRow B e size v n xs) : ∃ A c, v = .slice A n c := by
  rcases h.2 with ⟨rfl, rfl⟩ | ⟨g, cap, cur, rfl, _⟩
  · exact ⟨_, _, rfl⟩
  · exact ⟨_, _, rfl⟩
theorem own_mono {w : World} {B B' : Nat} {e : TypeId} {size n : Nat} {v : Value} {xs : List Value} (h : w.ownsRow B e size v n xs) (hB : B' ≤ B) : w.ownsRow B' e size v n xs := by
  refine ⟨h.1, ?_⟩
  rcases h.2 with h0 | ⟨g, cap, cur, hv, hb, h1⟩
  · exact .inl h0
  · exact .inr ⟨g, cap, cur, hv, Nat.le_trans hB hb, h1⟩
theorem own_below {w w' : World} {B : Nat} {e : TypeId} {size n : Nat} {v : Value} {xs : List Value} (h : w.ownsRow B e size v n xs) (hb : Below w.heap.size w w') : w'.ownsRow B e size v n xs := by
  refine ⟨h.1, ?_⟩
  rcases h.2 with h0 | ⟨g, cap, cur, hv, hB, hk, h1⟩
  · exact .inl h0
  · exact .inr ⟨g, cap, cur, hv, hB, (hb.block g (ltOf hk)).trans hk, h1⟩
end Go.Proofs.Ytpgbojpeffilmaa
/-
  Rows of bytes of the call's own: append of one, or three, and string(row).
-/
namespace Go.Proofs.Ytpgbojpeffilmaa
set_option maxRecDepth 100000
open Go.RowKit
theorem Try.infoB : (Try.prog.info? 5).map (fun i => (i.zero, i.size, i.bytes)) = some (some (.int .u8 0), 1, 1) := by kernel_rfl
/-- Bytes as the model's cells. -/
def bytesV (l : List UInt8) : List Value := l.map fun b => .int .u8 (b.toNat : Int)
theorem bytesV_length (l : List UInt8) : (bytesV l).length = l.length := by simp [bytesV]
theorem bytesV_append (l m : List UInt8) : bytesV (l ++ m) = bytesV l ++ bytesV m := by simp [bytesV]
theorem push_fold : ∀ (l : List UInt8) (s : ByteArray), (l.map fun b => (b.toNat : Int)).foldl (fun r n => r.push (UInt8.ofNat n.toNat)) s = ⟨(s.data.toList ++ l).toArray⟩
  | [], s => by simp
  | b :: l, s => by
    rw [List.map_cons, List.foldl_cons, push_fold l]
    simp [ByteArray.push]
theorem cells_new (w : World) (l : List UInt8) (cs : Array Value) (hcs : cs.toList = bytesV l) (c : Nat) (hc : c = w.heap.size) : ∀ j u, (bytesV l)[j]? = some u → (w.alloc (.cells cs 5)).cell? ((⟨c, 0, none⟩ : Addr).add j) = some u := by
  intro j u hj
  rw [show (⟨c, 0, none⟩ : Addr).add j = ⟨c, j, none⟩ by unfold Addr.add; split <;> simp_all, World.cell?_alloc_at _ _ _ _ hc, ← Array.getElem?_toList, hcs]
  exact hj
theorem bytes_grown {w0 w w' : World} {v : Value} {l : List UInt8} (hb : Below w0.heap.size w0 w) (hown : w.ownsRow w0.heap.size 5 1 v l.length (bytesV l)) {o : Obj} (hg : (w.alloc o).grownBy w' v.ownBlock) : Below w0.heap.size w0 w' :=
  (hb.alloc hb.size o).grown hg (by have := hb.size; simp; omega) (fun k hk => (hown.lt k hk).1)
end Go.Proofs.Ytpgbojpeffilmaa
/-
  A strings.Builder of the call's own: copyCheck walked, and String by the library's contract.
-/
namespace Go.Proofs.Ytpgbojpeffilmaa
set_option maxRecDepth 100000
open Go.RowKit
theorem Try.infoByte : (Try.prog.info? 5).map (fun i => (i.zero, i.size, i.bytes)) = some (some (.int .u8 0), 1, 1) := by kernel_rfl
theorem byteCells_len (l : List UInt8) : (Lib.byteCells l).length = l.length := by simp [Lib.byteCells]
theorem byteCells_one (l : List UInt8) (x : UInt8) : Lib.byteCells l ++ [.int .u8 (x.toNat : Int)] = Lib.byteCells (l ++ [x]) := by simp [Lib.byteCells]
theorem byteCells_str (l : List UInt8) (s : ByteArray) : Lib.byteCells l ++ Lib.strCells s = Lib.byteCells (l ++ s.data.toList) := by simp [Lib.byteCells, Lib.strCells]
end Go.Proofs.Ytpgbojpeffilmaa
/-
  WriteByte walked.
-/
namespace Go.Proofs.Ytpgbojpeffilmaa
set_option maxRecDepth 100000
open Go.RowKit
end Go.Proofs.Ytpgbojpeffilmaa
/-
  Grow of a builder that was not written yet.
-/
namespace Go.Proofs.Ytpgbojpeffilmaa
set_option maxRecDepth 100000
open Go.RowKit
end Go.Proofs.Ytpgbojpeffilmaa
/-
  WriteString walked.
-/
namespace Go.Proofs.Ytpgbojpeffilmaa
set_option maxRecDepth 100000
open Go.RowKit
end Go.Proofs.Ytpgbojpeffilmaa
/-
  Stores and loads of many cells in one step.
-/
namespace Go.Proofs.Ytpgbojpeffilmaa
set_option maxRecDepth 100000
open Go.RowKit
/-- Whatever lay below n, but for one block, lies as it lay. -/
structure Apart (mb n : Nat) (a w : World) : Prop where
  os : w.os = a.os
  tape : w.tape = a.tape
  output : w.output = a.output
  size : a.heap.size ≤ w.heap.size
  block : ∀ k, k < n → k ≠ mb → w.heap[k]? = a.heap[k]?
theorem Apart.refl (mb n : Nat) (w : World) : Apart mb n w w := ⟨rfl, rfl, rfl, Nat.le_refl _, fun _ _ _ => rfl⟩
theorem Apart.of {mb n : Nat} {a w : World} (h : Below n a w) : Apart mb n a w := ⟨h.os, h.tape, h.output, h.size, fun k hk _ => h.block k hk⟩
theorem Apart.trans {mb n : Nat} {a b c : World} (h : Apart mb n a b) (k : Apart mb n b c) : Apart mb n a c :=
  ⟨k.os.trans h.os, k.tape.trans h.tape, k.output.trans h.output, Nat.le_trans h.size k.size, fun i hi hne => (k.block i hi hne).trans (h.block i hi hne)⟩
theorem Apart.mono {mb n m : Nat} {a w : World} (h : Apart mb n a w) (hm : m ≤ n) : Apart mb m a w := ⟨h.os, h.tape, h.output, h.size, fun k hk hne => h.block k (Nat.lt_of_lt_of_le hk hm) hne⟩
theorem Apart.next {mb : Nat} {a b c : World} (h : Apart mb a.heap.size a b) (k : Apart mb b.heap.size b c) : Apart mb a.heap.size a c := h.trans (k.mono h.size)
theorem Apart.set {mb n : Nat} {a w : World} (h : Apart mb n a w) (i : Nat) (v : Value) : Apart mb n a (w.setCell ⟨mb, i, none⟩ v) :=
  ⟨h.os, h.tape, h.output, by rw [World.size_setCell]; exact h.size, fun k hk hne => (Below.heap_setCell _ _ _ k (fun e => hne e)).trans (h.block k hk hne)⟩
theorem Apart.cell {mb n : Nat} {a w : World} (h : Apart mb n a w) {b : Nat} (hb : b < n) (hne : b ≠ mb) (o : Nat) (x : Option Nat) : w.cell? ⟨b, o, x⟩ = a.cell? ⟨b, o, x⟩ := by
  simp only [World.cell?, h.block b hb hne]
theorem Apart.below {mb n m : Nat} {a w : World} (h : Apart mb n a w) (h1 : m ≤ n) (h2 : m ≤ mb) : Below m a w := ⟨h.os, h.tape, h.output, h.size, fun k hk => h.block k (by omega) (by omega)⟩
section
variable {P : Program} {ops : Array Oper} {rest : List Oper} {op : Oper} {a : Act} {w : World} {Q : Exit → Act → World → Prop}
theorem setCells_block (b : Nat) (t : TypeId) : ∀ (vs : List Value) (o : Nat) (cs : Array Value) (w : World), w.heap[b]? = some (.cells cs t (0, 0)) → o + vs.length ≤ cs.size → ∃ cs', (w.setCells b o vs).heap[b]? = some (.cells cs' t (0, 0)) ∧ cs'.size = cs.size ∧ (∀ i, i < o → cs'[i]? = cs[i]?) ∧ (∀ j, j < vs.length → cs'[o + j]? = vs[j]?) ∧ (∀ i, o + vs.length ≤ i → cs'[i]? = cs[i]?)
  | [], o, cs, w, h, _ => ⟨cs, h, rfl, fun _ _ => rfl, fun _ hj => absurd hj (Nat.not_lt_zero _), fun _ _ => rfl⟩
  | v :: vs, o, cs, w, h, hl => by
    rw [List.length_cons] at hl
    obtain ⟨cs', h1, h2, h3, h4, h5⟩ := setCells_block b t vs (o + 1) (cs.setIfInBounds o v) (w.setCell ⟨b, o, none⟩ v) (setOf h o v) (by simp; omega)
    refine ⟨cs', h1, by simpa using h2, fun i hi => ?_, fun j hj => ?_, fun i hi => ?_⟩
    · rw [h3 i (by omega), Array.getElem?_setIfInBounds_ne (by omega)]
    · cases j with
      | zero =>
        have ho : o < cs.size := by omega
        rw [Nat.add_zero, h3 o (by omega), Array.getElem?_setIfInBounds_self_of_lt ho]; rfl
      | succ j => rw [List.length_cons] at hj; rw [List.getElem?_cons_succ, ← h4 j (by omega)]; congr 1; omega
    · rw [List.length_cons] at hi; rw [h5 i (by omega), Array.getElem?_setIfInBounds_ne (by omega)]
theorem setCells_apart (b : Nat) : ∀ (vs : List Value) (o : Nat) (w : World), Apart b w.heap.size w (w.setCells b o vs)
  | [], _, w => Apart.refl _ _ _
  | v :: vs, o, w => by
    have h := setCells_apart b vs (o + 1) (w.setCell ⟨b, o, none⟩ v)
    rw [World.size_setCell] at h
    exact (Apart.set (Apart.refl b w.heap.size w) o v).trans h
/-- A store of many cells into the midst of a block that is known whole. -/
theorem wpList_store_blk (hgd : op.guard = none) (ty : TypeId) (x y : Operand) (ho : op.op = .store ty x y) (b o : Nat) (t : TypeId) (cs vs cs' : Array Value) (hx : a.eval x = .pointer (some ⟨b, o, none⟩)) (hy : a.eval y = .agg vs)
    (hb : w.heap[b]? = some (.cells cs t (0, 0))) (hi : (P.info? ty).map (·.size) = some vs.size) (h1 : vs.all (·.oneCell') = true) (hs : o + vs.size ≤ cs.size) (hc : cs' = (cs.toList.take o ++ vs.toList ++ cs.toList.drop (o + vs.size)).toArray)
    (h : ∀ w', w'.heap[b]? = some (.cells cs' t (0, 0)) → Apart b w.heap.size w w' → wpList P ops Q rest (a.put op.dst undef) w') : wpList P ops Q (op :: rest) a w := by
  refine wpList_store_mid hgd ty x y ho b o vs hx hy (fun j hj => ⟨?_, freeOf hb _⟩) hi h1 ?_
  · rw [cellOf hb, Array.getElem?_eq_getElem (by omega)]; rfl
  · obtain ⟨c2, k1, k2, k3, k4, k5⟩ := setCells_block b t vs.toList o cs w hb (by simpa using hs)
    refine h _ ?_ (setCells_apart b vs.toList o w)
    rw [k1]
    have : c2 = cs' := by
      rw [hc]
      apply Array.toList_inj.1
      show c2.toList = cs.toList.take o ++ vs.toList ++ cs.toList.drop (o + vs.size)
      apply List.ext_getElem?
      intro i
      rw [Array.getElem?_toList]
      have l1 : (cs.toList.take o).length = o := by rw [List.length_take, Array.length_toList]; omega
      by_cases hi : i < o
      · rw [k3 i hi, List.append_assoc, List.getElem?_append_left (by omega), List.getElem?_take_of_lt hi, Array.getElem?_toList]
      · by_cases hi2 : i < o + vs.size
        · obtain ⟨j, rfl⟩ : ∃ j, i = o + j := ⟨i - o, by omega⟩
          rw [k4 j (by rw [Array.length_toList]; omega), List.append_assoc, List.getElem?_append_right (by omega), l1, Nat.add_sub_cancel_left, List.getElem?_append_left (by rw [Array.length_toList]; omega)]
        · rw [k5 i (by rw [Array.length_toList]; omega), List.getElem?_append_right (by rw [List.length_append, l1, Array.length_toList]; omega), List.length_append, l1, Array.length_toList, List.getElem?_drop, Array.getElem?_toList]
          congr 1; omega
    rw [this]
/-- A load of a block's cells, from o on. -/
theorem wpList_load_blk (hgd : op.guard = none) (ty : TypeId) (x : Operand) (ho : op.op = .load ty x) (b o : Nat) (t : TypeId) (cs vs : Array Value) (d : TypeDesc) (hx : a.eval x = .pointer (some ⟨b, o, none⟩)) (hb : w.heap[b]? = some (.cells cs t (0, 0)))
    (hu : P.underlying ty = some d) (hd : d.isRow = true) (hi : (P.info? ty).map (·.size) = some vs.size) (hc : ∀ j, j < vs.size → cs[o + j]? = vs[j]?)
    (h : wpList P ops Q rest (a.put op.dst (.agg vs)) w) : wpList P ops Q (op :: rest) a w := by
  refine wpList_load_mid hgd ty x ho b o hx vs.toList d (fun j v hv => ?_) hu hd (by simpa using hi) (by simpa using h)
  rw [cellOf hb]
  rw [Array.getElem?_toList] at hv
  rw [hc j (Array.getElem?_eq_some_iff.1 hv).1]; exact hv
theorem loadVar_blk {ty t : TypeId} {b o : Nat} {cs vs : Array Value} {d : TypeDesc} (hb : w.heap[b]? = some (.cells cs t (0, 0))) (hu : P.underlying ty = some d) (hd : d.isRow = true) (hi : (P.info? ty).map (·.size) = some vs.size) (hc : ∀ j, j < vs.size → cs[o + j]? = vs[j]?) :
    (loadVar ty ⟨b, o, none⟩).run P w = .ok (.agg vs) w := by
  have := run_loadVar_mid (P := P) w b o ty vs.toList d (fun j v hv => by
    rw [cellOf hb]
    rw [Array.getElem?_toList] at hv
    rw [hc j (Array.getElem?_eq_some_iff.1 hv).1]; exact hv) hu hd (by simpa using hi)
  simpa using this
end
end Go.Proofs.Ytpgbojpeffilmaa
