/-
  Base · Bytes · Build · BuildByte · BuildGrow · BuildStr · Blk, in one text.
-/
import Derived.Test.YtojpkbonioglbaaGreatDoorRows
import Derived.WalkKit
import Derived.WalkSpells
import Derived.WalkLawsBesides
import Derived.Deep.QuietTactic
import Derived.BigQuiet
import Derived.StillTailTactics
import Derived.Lib.Hide
import Derived.Maps.AppendAt
import Derived.Deep.AppendLies
import Derived.Deep.RegionWith
import Derived.Deep.RegionHeld3
import Derived.Deep.DeepFit
import Derived.Deep.LoopGhost
import Derived.IntWalk
import Derived.Lib.Strings
import Derived.Lib.IndexBytes
import Derived.Laws.BytesString
import Derived.Test.YtojpkbonioglbaaGreatDoorShelf
import Derived.Shelf.Strings.BuilderK
import Derived.Lib.FrozenHead2
import Derived.Deep.MidRow
import Derived.Laws.ResultCell
/-
  What every walk of this seat uses: texts as lists of bytes, blocks known whole, answers, bytes against numbers.
-/
namespace Go.Proofs.YtojpkbonioglbaaGreatDoor
set_option maxRecDepth 100000
open Go.RowKit

/-- A text of these bytes. -/
def mkS (t : List UInt8) : ByteArray := ⟨t.toArray⟩
theorem ba_eq {p q : ByteArray} (h : p.toList = q.toList) : p = q := by
  rw [Lib.toList_data, Lib.toList_data] at h
  cases p; cases q
  rw [ByteArray.mk.injEq]
  exact Array.toList_inj.1 h
theorem ba_ne {p q : ByteArray} (h : p ≠ q) : (p.toList == q.toList) = false := beq_eq_false_iff_ne.2 fun e => h (ba_eq e)
theorem mkS_nil : mkS [] = { data := #[] } := rfl
theorem mkS_size (l : List UInt8) : (mkS l).size = l.length := by simp [mkS, ByteArray.size]
theorem mkS_data (l : List UInt8) : (mkS l).data.toList = l := by simp [mkS]
theorem mkS_toList (t : List UInt8) : (mkS t).toList = t := by rw [Lib.toList_data]; simp [mkS]
theorem mkS_of (b : ByteArray) : ∃ l, b = mkS l := ⟨b.data.toList, by cases b; simp [mkS]⟩
theorem mkS_cat (a b : List UInt8) : mkS a ++ mkS b = mkS (a ++ b) := by
  show ByteArray.append _ _ = _
  apply ba_eq
  rw [Lib.toList_data, mkS_toList]
  simp [mkS]
theorem mkS_eqb (a b : List UInt8) : ((mkS a).toList == (mkS b).toList) = (a == b) := by rw [mkS_toList, mkS_toList]
theorem mkS_extract (s : List UInt8) (a b : Nat) : (mkS s).extract a b = mkS ((s.take b).drop a) := by
  apply ba_eq
  rw [mkS_toList, Lib.toList_data, ByteArray.data_extract, Array.toList_extract]
  simp [mkS, List.extract, List.drop_take]
theorem mkS_get {l : List UInt8} {i : Nat} {x : UInt8} (h : i < (mkS l).size) (hx : l[i]? = some x) : (mkS l)[i]'h = x := by
  have e := Lib.data_getElem? (mkS l) i h
  rw [mkS_data, hx] at e
  injection e with e
  exact e.symm

theorem byte_eq {b : UInt8} {n : Nat} (hn : n < 256) : (((b.toNat : Int) == (n : Int)) = true) ↔ b = UInt8.ofNat n := by
  rw [beq_iff_eq]
  constructor
  · intro h
    have h' : b.toNat = n := by omega
    exact UInt8.toNat_inj.1 (by rw [h']; simp; omega)
  · rintro rfl
    simp; omega
theorem byte_lt (b : UInt8) : b.toNat < 256 := b.toNat_lt
theorem byte_of (b : UInt8) : ((b.toNat : Int)).toNat.toUInt8 = b := by simp

theorem ret_bool {a b : Bool} (h : a = b) : Ending.returned (.bool a) = .returned (.bool b) := by rw [h]
theorem ret_int {k : IntKind} {a b : Int} (h : a = b) : Ending.returned (.int k a) = .returned (.int k b) := by rw [h]
theorem ret_str {a b : ByteArray} (h : a = b) : Ending.returned (.string a) = .returned (.string b) := by rw [h]

theorem cellOf {w : World} {g : Nat} {cs : Array Value} {t : TypeId} {fz : Nat × Nat} (h : w.heap[g]? = some (.cells cs t fz)) (i : Nat) : w.cell? ⟨g, i, none⟩ = cs[i]? := by simp [World.cell?, h]
theorem freeOf {w : World} {g : Nat} {cs : Array Value} {t : TypeId} (h : w.heap[g]? = some (.cells cs t (0, 0))) (i : Nat) : w.frozen? ⟨g, i, none⟩ = false := by simp [World.frozen?, h]
theorem setOf {w : World} {g : Nat} {cs : Array Value} {t : TypeId} {fz : Nat × Nat} (h : w.heap[g]? = some (.cells cs t fz)) (i : Nat) (u : Value) : (w.setCell ⟨g, i, none⟩ u).heap[g]? = some (.cells (cs.setIfInBounds i u) t fz) := by
  simp [World.setCell, Array.getElem?_modify, h]
theorem ltOf {w : World} {g : Nat} {o : Obj} (h : w.heap[g]? = some o) : g < w.heap.size := by
  rcases Nat.lt_or_ge g w.heap.size with hl | hl
  · exact hl
  · rw [Array.getElem?_eq_none hl] at h; cases h
theorem newOf (w : World) (o : Obj) : (w.alloc o).heap[w.heap.size]? = some o := heap_alloc_new w o
theorem grownOf {w w' : World} {row : Option Nat} {g : Nat} {o : Obj} (h : w.heap[g]? = some o) (k : w.grownBy w' row) (hne : some g ≠ row) : w'.heap[g]? = some o := (k.block g (ltOf h) hne).trans h
theorem grown_drew {w w' : World} {row : Option Nat} (h : w.drew.grownBy w' row) : w.grownBy w' row := ⟨h.os, h.tape, h.output, h.size, h.block⟩
theorem belowOf {w w' : World} {B g : Nat} {o : Obj} (h : w.heap[g]? = some o) (k : Below B w w') (hg : g < B) : w'.heap[g]? = some o := (k.block g hg).trans h
theorem add_block (a : Addr) (n : Nat) : (a.add n).block = a.block := by unfold Addr.add; split <;> rfl
theorem below_drewN {B : Nat} {a w : World} (h : Below B a w) (n : Nat) : Below B a (w.drewN n) := ⟨h.os, h.tape, h.output, h.size, h.block⟩
/-- What a call leaves, behind what stood. -/
theorem below_next {w0 w w' : World} (h : Below w0.heap.size w0 w) (k : Below w.heap.size w w') : Below w0.heap.size w0 w' := h.trans (k.mono h.size)
theorem below_fresh {w0 w w' : World} (h : Below w0.heap.size w0 w) {o : Obj} (k : Below (w.alloc o).heap.size (w.alloc o) w') : Below w0.heap.size w0 w' :=
  (h.alloc h.size o).trans (k.mono (by have := h.size; simp; omega))
theorem bcell {W w1 : World} (hb : Below W.heap.size W w1) : (∀ b o, b < W.heap.size → w1.cell? ⟨b, o, none⟩ = W.cell? ⟨b, o, none⟩) ∧ (∀ b o, b < W.heap.size → w1.frozen? ⟨b, o, none⟩ = W.frozen? ⟨b, o, none⟩) :=
  ⟨fun b o h => hb.cell (p := ⟨b, o, none⟩) h, fun b o h => hb.frozen (p := ⟨b, o, none⟩) h⟩
/-- A call that leaves the world alone, behind draws that have been joined. -/
theorem quiet_more {P : Program} {f : FuncId} {args : Array Value} {w : World} {a n : Nat} {v : Value} (h : Calls P f args (w.drewN (a + n)) fun e w' => e = .returned v ∧ w' = w.drewN (a + n)) :
    Calls P f args (w.drewN (a + n)) fun e w' => e = .returned v ∧ ∃ m, w' = w.drewN (a + m) := h.mono fun _ _ ⟨he, hw⟩ => ⟨he, n, hw⟩
/-- A call that leaves the world alone, its world spelled as the walk has it. -/
theorem still {P : Program} {f : FuncId} {args : Array Value} {w : World} {v : Value} (h : Calls P f args w fun e w' => e = .returned v ∧ w = w') :
    Calls P f args w fun e w' => e = .returned v ∧ w' = w := h.mono fun _ _ ⟨he, hw⟩ => ⟨he, hw.symm⟩

theorem own_slice {w : World} {B : Nat} {e : TypeId} {size n : Nat} {v : Value} {xs : List Value} (h : w.ownsRow B e size v n xs) : ∃ A c, v = .slice A n c := by
  rcases h.2 with ⟨rfl, rfl⟩ | ⟨g, cap, cur, rfl, _⟩
  · exact ⟨_, _, rfl⟩
  · exact ⟨_, _, rfl⟩
theorem own_mono {w : World} {B B' : Nat} {e : TypeId} {size n : Nat} {v : Value} {xs : List Value} (h : w.ownsRow B e size v n xs) (hB : B' ≤ B) : w.ownsRow B' e size v n xs := by
  refine ⟨h.1, ?_⟩
  rcases h.2 with h0 | ⟨g, cap, cur, hv, hb, h1⟩
  · exact .inl h0
  · exact .inr ⟨g, cap, cur, hv, Nat.le_trans hB hb, h1⟩
theorem own_below {w w' : World} {B : Nat} {e : TypeId} {size n : Nat} {v : Value} {xs : List Value} (h : w.ownsRow B e size v n xs) (hb : Below w.heap.size w w') : w'.ownsRow B e size v n xs := by
  refine ⟨h.1, ?_⟩
  rcases h.2 with h0 | ⟨g, cap, cur, hv, hB, hk, h1⟩
  · exact .inl h0
  · exact .inr ⟨g, cap, cur, hv, hB, (hb.block g (ltOf hk)).trans hk, h1⟩
end Go.Proofs.YtojpkbonioglbaaGreatDoor
/-
  Rows of bytes of the call's own: append of one, or three, and string(row).
-/
namespace Go.Proofs.YtojpkbonioglbaaGreatDoor
set_option maxRecDepth 100000
open Go.RowKit
theorem Tryz.infoB : (Tryz.prog.info? 5).map (fun i => (i.zero, i.size, i.bytes)) = some (some (.int .u8 0), 1, 1) := by kernel_rfl
/-- Bytes as the model's cells. -/
def bytesV (l : List UInt8) : List Value := l.map fun b => .int .u8 (b.toNat : Int)
theorem bytesV_length (l : List UInt8) : (bytesV l).length = l.length := by simp [bytesV]
theorem bytesV_append (l m : List UInt8) : bytesV (l ++ m) = bytesV l ++ bytesV m := by simp [bytesV]
theorem push_fold : ∀ (l : List UInt8) (s : ByteArray), (l.map fun b => (b.toNat : Int)).foldl (fun r n => r.push (UInt8.ofNat n.toNat)) s = ⟨(s.data.toList ++ l).toArray⟩
  | [], s => by simp
  | b :: l, s => by
    rw [List.map_cons, List.foldl_cons, push_fold l]
    simp [ByteArray.push]
/-- Bytes in memory, as a text. -/
theorem conv_bytes (w : World) (a : Addr) (l : List UInt8) (n cap : Nat) (hn : l.length = n) (h : ∀ j v, (bytesV l)[j]? = some v → w.cell? (a.add j) = some v) :
    (convert 84 9 (.slice (some a) n cap)).run Tryz.prog w = .ok (.string (mkS l)) w := by
  rw [run_convert_bytes_string w 84 9 5 (some a) n cap Tryz.underlying84 Tryz.underlying5 Tryz.underlying9]
  have hl := run_loadCells_list (P := Tryz.prog) w a (bytesV l) h
  rw [bytesV_length, hn] at hl
  rw [run_bytesToString w a n cap (l.map fun b => (b.toNat : Int)) (by rw [hl]; simp [bytesV]), push_fold]
  rfl
theorem conv_own {w : World} {B : Nat} {v : Value} {l : List UInt8} (h : w.ownsRow B 5 1 v l.length (bytesV l)) : (convert 84 9 v).run Tryz.prog w = .ok (.string (mkS l)) w := by
  rcases h.2 with ⟨rfl, h0⟩ | ⟨g, cap, cur, rfl, _⟩
  · have e : l = [] := List.eq_nil_of_length_eq_zero h0
    subst e
    rw [run_convert_bytes_string w 84 9 5 none 0 0 Tryz.underlying84 Tryz.underlying5 Tryz.underlying9]
    simp [Conv.bytesToString]
    rfl
  · exact conv_bytes w _ l _ cap rfl (fun j v hj => h.cells rfl j v hj)
/-- One byte in a new block, as a text. -/
theorem conv_new (w : World) (b : UInt8) (c : Nat) (hc : c = w.heap.size) : (convert 84 9 (.slice (some ⟨c, 0, none⟩) 1 1)).run Tryz.prog (w.alloc (.cells #[.int .u8 (b.toNat : Int)] 5)) = .ok (.string (mkS [b])) (w.alloc (.cells #[.int .u8 (b.toNat : Int)] 5)) := by
  subst hc
  refine conv_bytes _ _ [b] 1 1 rfl fun j v hj => ?_
  match j with
  | 0 => simp [bytesV] at hj; subst hj; exact World.cell?_alloc_at _ _ _ _ rfl
  | j + 1 => simp [bytesV] at hj
theorem cells_new (w : World) (l : List UInt8) (cs : Array Value) (hcs : cs.toList = bytesV l) (c : Nat) (hc : c = w.heap.size) : ∀ j u, (bytesV l)[j]? = some u → (w.alloc (.cells cs 5)).cell? ((⟨c, 0, none⟩ : Addr).add j) = some u := by
  intro j u hj
  rw [show (⟨c, 0, none⟩ : Addr).add j = ⟨c, j, none⟩ by unfold Addr.add; split <;> simp_all, World.cell?_alloc_at _ _ _ _ hc, ← Array.getElem?_toList, hcs]
  exact hj
/-- append of bytes of a new block onto a row of bytes of the call's own. -/
theorem app_bytes {w : World} {ops : Array Oper} {rest : List Oper} {o : Oper} {a : Act} {Q : Exit → Act → World → Prop} (hgd : o.guard = none) (s x : Operand)
    (ho : o.op = .call { callee := .builtin .append, args := #[s, x], argTypes := #[84, 84] }) (base : Nat) (v : Value) (l : List UInt8) (hs : a.eval s = v) (hown : w.ownsRow base 5 1 v l.length (bytesV l))
    (ad : Addr) (m c : Nat) (news : List UInt8) (hx : a.eval x = .slice (some ad) m c) (hl : news.length = m) (hnews : ∀ j u, (bytesV news)[j]? = some u → w.cell? (ad.add j) = some u) (h9 : l.length + m ≤ 100000000000) (hbase : base ≤ w.heap.size)
    (h : ∀ v' w', w'.ownsRow base 5 1 v' (l ++ news).length (bytesV (l ++ news)) → w.grownBy w' v.ownBlock → wpList Tryz.prog ops Q rest (a.put o.dst v') w') :
    wpList Tryz.prog ops Q (o :: rest) a w := by
  obtain ⟨i0, hi, hz0, hz1, hz2⟩ := info_parts Tryz.infoB
  refine wpList_append_own_at (w := w) hgd s x 84 ho base 5 i0 (.int .u8 0) 1 1 Tryz.underlying84 hi hz0 hz1 hz2 rfl (by decide) v l.length (bytesV l) hs hown ad m c (bytesV news) hx (by rw [bytesV_length]; omega) hnews ?_ (by unfold maxLen; omega) (by omega) hbase ?_
  · intro u hu
    obtain ⟨b, _, rfl⟩ := List.mem_map.1 hu
    rfl
  · intro v' w' h1 h2 _ _
    refine h v' w' ?_ h2
    rw [List.length_append, hl, bytesV_append]
    exact h1
/-- The same at a step of a region that draws its order. -/
theorem step_bytes {w : World} {ops : Array Oper} {o : Oper} {a : Act} {K : Act → World → Prop} {Q : Exit → Act → World → Prop} {E : Prop} (hgd : o.guard = none) (s x : Operand)
    (ho : o.op = .call { callee := .builtin .append, args := #[s, x], argTypes := #[84, 84] }) (base : Nat) (v : Value) (l : List UInt8) (hs : a.eval s = v) (hown : w.ownsRow base 5 1 v l.length (bytesV l))
    (ad : Addr) (m c : Nat) (news : List UInt8) (hx : a.eval x = .slice (some ad) m c) (hl : news.length = m) (hnews : ∀ j u, (bytesV news)[j]? = some u → w.cell? (ad.add j) = some u) (hm : 0 < m) (h9 : l.length + m ≤ 100000000000) (hbase : base ≤ w.heap.size)
    (h : ∀ v' w', w'.ownsRow base 5 1 v' (l ++ news).length (bytesV (l ++ news)) → w.grownBy w' v.ownBlock → K (a.put o.dst v') w') :
    if Region.wanted o (yielded ops a.tmps) = true then Oper.wp Tryz.prog o a w K Q else E := by
  obtain ⟨i0, hi, hz0, hz1, hz2⟩ := info_parts Tryz.infoB
  refine step_append_lies w hgd s x 84 ho base 5 i0 (.int .u8 0) 1 1 Tryz.underlying84 hi hz0 hz1 hz2 rfl (by decide) v l.length (bytesV l) hs hown ad m c (bytesV news) hx (by rw [bytesV_length]; omega) hnews ?_ hm (by unfold maxLen; omega) (by omega) hbase _ rfl ?_
  · intro u hu
    obtain ⟨b, _, rfl⟩ := List.mem_map.1 hu
    rfl
  · intro g cap w' h1 h2 _ _
    refine h _ w' ?_ h2
    rw [List.length_append, hl, bytesV_append]
    exact h1
theorem bytes_grown {w0 w w' : World} {v : Value} {l : List UInt8} (hb : Below w0.heap.size w0 w) (hown : w.ownsRow w0.heap.size 5 1 v l.length (bytesV l)) {o : Obj} (hg : (w.alloc o).grownBy w' v.ownBlock) : Below w0.heap.size w0 w' :=
  (hb.alloc hb.size o).grown hg (by have := hb.size; simp; omega) (fun k hk => (hown.lt k hk).1)
end Go.Proofs.YtojpkbonioglbaaGreatDoor
/-
  A strings.Builder of the call's own: copyCheck walked, and String by the library's contract.
-/
namespace Go.Proofs.YtojpkbonioglbaaGreatDoor
set_option maxRecDepth 100000
open Go.RowKit
theorem Tryz.infoByte : (Tryz.prog.info? 5).map (fun i => (i.zero, i.size, i.bytes)) = some (some (.int .u8 0), 1, 1) := by kernel_rfl
theorem Tryz.infoBld : (Tryz.prog.info? 105).map (·.size) = some 2 := by kernel_rfl
theorem Tryz.liesBld : liesAt Tryz.prog Tryz.prog.depth 105 (2 / Tryz.prog.cellsOf 105) 0 105 1 = true := by kernel_rfl

set_option maxRecDepth 100000 in
set_option maxHeartbeats 400000 in
theorem cc_used (b : Nat) (w : World) (h0 : w.cell? ⟨b, 0, none⟩ = some (.pointer (some ⟨b, 0, none⟩))) :
    Calls Tryz.prog 98 #[.pointer (some ⟨b, 0, none⟩)] w fun e w' => e = .returned (.tuple #[]) ∧ w' = w := by
  obtain ⟨j, hj, _⟩ := Option.map_eq_some_iff.1 Tryz.infoBld
  go_enter Tryz.func98, Tryz.ntmps98
  go_wp2
  rw [Lib.run_neq_ptr_same w _ Tryz.underlying103 hj]
  go_wp2
  go_end0
  exact ⟨rfl, rfl⟩
set_option maxRecDepth 100000 in
set_option maxHeartbeats 400000 in
theorem cc_fresh (b : Nat) (w : World) (h0 : w.cell? ⟨b, 0, none⟩ = some (.pointer none)) (hsh : w.shape? b = some (105, 2)) (hfz : w.frozen? ⟨b, 0, none⟩ = false) :
    Calls Tryz.prog 98 #[.pointer (some ⟨b, 0, none⟩)] w fun e w' => e = .returned (.tuple #[]) ∧ w' = w.setCell ⟨b, 0, none⟩ (.pointer (some ⟨b, 0, none⟩)) := by
  obtain ⟨j, hj, hjs⟩ := Option.map_eq_some_iff.1 Tryz.infoBld
  go_enter Tryz.func98, Tryz.ntmps98
  go_wp2
  rw [Lib.run_to_unsafe w ⟨b, 0, none⟩ Tryz.underlying103 Tryz.underlying162 hj (by rw [hjs]; decide) hsh (Nat.zero_lt_succ 1)]
  simp only [Result.andThen]
  rw [Oper.upon_value]
  go_wp2
  rw [run_callFunc_extern Tryz.func133 (by kernel_rfl) (by kernel_rfl) (by kernel_rfl) (e := Extern.AbiNoEscape.same) (by kernel_rfl)]
  rw [Lib.run_noEscape]
  simp only [Result.andThen]
  rw [Oper.upon_value]
  go_wp2
  rw [Lib.run_from_unsafe w ⟨b, 0, none⟩ Tryz.underlying162 Tryz.underlying103 hj hsh Tryz.liesBld]
  simp only [Result.andThen]
  rw [Oper.upon_value]
  go_wp2
  go_end0
  exact ⟨rfl, rfl⟩
theorem cc_any (B b : Nat) (bs : List Value) (w : World) (h : Lib.IsBuilderF 105 5 B b bs w) :
    Calls Tryz.prog 98 #[.pointer (some ⟨b, 0, none⟩)] w fun e w' => e = .returned (.tuple #[]) ∧ (Lib.BuilderAtF 105 5 B b (.pointer (some ⟨b, 0, none⟩)) bs w' ∧ Below B w w') := by
  rcases h with h | h
  · refine (cc_fresh b w h.cell0 h.shape h.frozen0).mono ?_
    rintro e w' ⟨rfl, rfl⟩
    exact ⟨rfl, h.used _, (Below.refl B w).setCell (p := ⟨b, 0, none⟩) h.1 _⟩
  · refine (cc_used b w h.cell0).mono ?_
    rintro e w' ⟨rfl, rfl⟩
    exact ⟨rfl, h, Below.refl B _⟩

/-- The builder at block b holds these bytes; its row, if it has one, is a later block. -/
def Bld (b : Nat) (l : List UInt8) (w : World) : Prop := Lib.IsBuilderF 105 5 b b (Lib.byteCells l) w
theorem byteCells_len (l : List UInt8) : (Lib.byteCells l).length = l.length := by simp [Lib.byteCells]
theorem byteCells_one (l : List UInt8) (x : UInt8) : Lib.byteCells l ++ [.int .u8 (x.toNat : Int)] = Lib.byteCells (l ++ [x]) := by simp [Lib.byteCells]
theorem byteCells_str (l : List UInt8) (s : ByteArray) : Lib.byteCells l ++ Lib.strCells s = Lib.byteCells (l ++ s.data.toList) := by simp [Lib.byteCells, Lib.strCells]
theorem Bld.lt {b : Nat} {l : List UInt8} {w : World} (h : Bld b l w) : b < w.heap.size := h.elim (·.lt) (·.lt)
theorem bld_new (w : World) : Bld w.heap.size [] (w.alloc (.cells #[.pointer none, .slice none 0 0] 105)) :=
  .inl ⟨Nat.le_refl _, .slice none 0 0, newOf w _, ⟨rfl, .inl ⟨rfl, rfl⟩⟩, by simp [Value.ownBlock]⟩
/-- What turns ahead of a builder leaves it. -/
theorem Bld.above {b : Nat} {l : List UInt8} {w w' : World} (h : Bld b l w) (hk : ∀ k, b ≤ k → k < w.heap.size → w'.heap[k]? = w.heap[k]?) : Bld b l w' := by
  have H : ∀ p, Lib.BuilderAtF 105 5 b b p (Lib.byteCells l) w → Lib.BuilderAtF 105 5 b b p (Lib.byteCells l) w' := by
    rintro p ⟨hB, v, hb, hown, hne⟩
    refine ⟨hB, v, (hk b (Nat.le_refl _) (ltOf hb)).trans hb, ⟨hown.1, ?_⟩, hne⟩
    rcases hown.2 with h0 | ⟨g, cap, cur, fz, hv, hg, hcur, h1⟩
    · exact .inl h0
    · exact .inr ⟨g, cap, cur, fz, hv, hg, (hk g hg (ltOf hcur)).trans hcur, h1⟩
  exact h.elim (fun x => .inl (H _ x)) (fun x => .inr (H _ x))
theorem Bld.below {b : Nat} {l : List UInt8} {w w' : World} (h : Bld b l w) (hb : Below w.heap.size w w') : Bld b l w' := h.above fun k _ hk => hb.block k hk
theorem Bld.setCell {b : Nat} {l : List UInt8} {w : World} (h : Bld b l w) (p : Addr) (hp : p.block < b) (v : Value) : Bld b l (w.setCell p v) :=
  h.above fun k hk _ => Below.heap_setCell w p v k (by omega)
theorem Bld.drewN {b : Nat} {l : List UInt8} {w : World} (h : Bld b l w) (n : Nat) : Bld b l (w.drewN n) := h.above fun _ _ _ => rfl
theorem bld_string {b : Nat} {l : List UInt8} {w : World} (h : Bld b l w) :
    Calls Tryz.prog 74 #[.pointer (some ⟨b, 0, none⟩)] w fun e w' => e = .returned (.string (mkS l)) ∧ Bld b l w' ∧ Below b w w' :=
  (Tryz.Builder_String_any_k b b l w h (Nat.le_of_lt h.lt)).mono fun _ _ ⟨he, hb, hw, _⟩ => ⟨he, hb, hw⟩
end Go.Proofs.YtojpkbonioglbaaGreatDoor
/-
  WriteByte walked.
-/
namespace Go.Proofs.YtojpkbonioglbaaGreatDoor
set_option maxRecDepth 100000
open Go.RowKit
set_option maxRecDepth 100000 in
set_option maxHeartbeats 1000000 in
set_option maxRecDepth 100000 in
theorem wb_any (B b : Nat) (bs : List Value) (c : Int) (w : World) (h : Lib.IsBuilderF 105 5 B b bs w) (hlen : bs.length + 1 ≤ 140737488355328) (hBw : B ≤ w.heap.size) :
    Calls Tryz.prog 83 #[.pointer (some ⟨b, 0, none⟩), .int .u8 c] w fun e w' => e = .returned .nilIface ∧ (Lib.BuilderAtF 105 5 B b (.pointer (some ⟨b, 0, none⟩)) (bs ++ [.int .u8 c]) w' ∧ Below B w w') := by
  obtain ⟨i0, hi, hz0, hz1, hz2⟩ := info_parts Tryz.infoByte
  go_enter Tryz.func83, Tryz.ntmps83
  go_wp2_with (go_at_call 98; refine (cc_any B b bs _ h).mono ?_)
  rintro e w1 ⟨rfl, h1, hb1⟩
  obtain ⟨hB, v, hbk, hown, hne⟩ := h1
  have c0 : w1.cell? ⟨b, 0, none⟩ = some (.pointer (some ⟨b, 0, none⟩)) := by rw [Lib.cell_of_heap hbk]; rfl
  have c1 : w1.cell? ⟨b, 1, none⟩ = some v := by rw [Lib.cell_of_heap hbk]; rfl
  go_wp2_with (at_builtin; refine wpList_append_ownF _ rfl _ _ 84 rfl B 5 i0 (.int .u8 0) 1 1 Tryz.underlying84 hi hz0 hz1 hz2 rfl (by decide) _ _ _ rfl (hown.alloc _) ⟨w1.heap.size, 0, none⟩ 1 1 [.int .u8 c] rfl rfl ?c1 ?c2 ?c3 ?c4 ?c5 ?_)
  case c1 =>
    intro j u hj
    match j, hj with
    | 0, hj => simp at hj; subst hj; simp [Addr.add]
  case c2 => intro u hu; simp at hu; subst hu; rfl
  case c3 => unfold maxLen; omega
  case c4 => omega
  case c5 => have := hb1.size; simp; omega
  intro v' w2 hown' hgrow _
  have hlt : b < w1.heap.size := ltOf hbk
  have hb2 : w2.heap[b]? = some (.cells #[.pointer (some ⟨b, 0, none⟩), v] 105 (0, 0)) := by
    rw [hgrow.block b (by simp; omega) (fun e => hne e.symm), Lib.alloc_old w1 _ b hlt]
    exact hbk
  have d0 : w2.cell? ⟨b, 0, none⟩ = some (.pointer (some ⟨b, 0, none⟩)) := by rw [Lib.cell_of_heap hb2]; rfl
  have d1 : w2.cell? ⟨b, 1, none⟩ = some v := by rw [Lib.cell_of_heap hb2]; rfl
  have f1 : w2.frozen? ⟨b, 1, none⟩ = false := Lib.frozen_of_heap hb2 1
  obtain ⟨g, cap, rfl⟩ : ∃ g cap, v' = .slice (some ⟨g, 0, none⟩) (bs.length + 1) cap := by
    rcases hown'.2 with ⟨_, h0⟩ | ⟨g, cap, cur, fz, hv, _⟩
    · omega
    · exact ⟨g, cap, hv⟩
  go_wp2
  go_ret
  refine ⟨rfl, ?_, ?_⟩
  · exact Lib.BuilderAtF.put (T := 105) (e := 5) hB hb2 (bs' := bs ++ [.int .u8 c]) (by simpa using hown') (by decide)
  · exact ((hb1.alloc (by have := hb1.size; omega) _).grown hgrow (by have := hb1.size; simp; omega) (fun k hk => (hown.lt k hk).1)).setCell (p := ⟨b, 1, none⟩) hB _
theorem bld_byte {b : Nat} {l : List UInt8} {w : World} (h : Bld b l w) (x : UInt8) (hl : l.length ≤ 100000000000) :
    Calls Tryz.prog 83 #[.pointer (some ⟨b, 0, none⟩), .int .u8 (x.toNat : Int)] w fun e w' => e = .returned .nilIface ∧ Bld b (l ++ [x]) w' ∧ Below b w w' :=
  (wb_any b b (Lib.byteCells l) x.toNat w h (by rw [byteCells_len]; omega) (Nat.le_of_lt h.lt)).mono fun _ _ ⟨he, hb, hw⟩ => ⟨he, .inr (by rw [← byteCells_one]; exact hb), hw⟩
end Go.Proofs.YtojpkbonioglbaaGreatDoor
/-
  Grow of a builder that was not written yet.
-/
namespace Go.Proofs.YtojpkbonioglbaaGreatDoor
set_option maxRecDepth 100000
open Go.RowKit
theorem bld_grow (w : World) (n : Nat) (hn : n ≤ 281474976710656) :
    Calls Tryz.prog 80 #[.pointer (some ⟨w.heap.size, 0, none⟩), .int .i64 n] (w.alloc (.cells #[.pointer none, .slice none 0 0] 105)) fun e w' => e = .returned (.tuple #[]) ∧ Bld w.heap.size [] w' ∧ Below w.heap.size w w' :=
  (Tryz.Builder_Grow_fresh w.heap.size w.heap.size n _ (Nat.le_refl _) (newOf w _) (by simp) hn).mono fun _ _ ⟨he, hb, hw⟩ => ⟨he, .inr (Lib.BuilderAtF.of hb), ((Below.refl _ w).alloc (Nat.le_refl _) _).trans hw⟩
end Go.Proofs.YtojpkbonioglbaaGreatDoor
/-
  WriteString walked.
-/
namespace Go.Proofs.YtojpkbonioglbaaGreatDoor
set_option maxRecDepth 100000
open Go.RowKit
set_option maxRecDepth 100000 in
set_option maxHeartbeats 400000 in
theorem ws_any (B b : Nat) (bs : List Value) (s : ByteArray) (w : World) (h : Lib.IsBuilderF 105 5 B b bs w) (hlen : bs.length + s.size ≤ 140737488355328) (hBw : B ≤ w.heap.size) :
    Calls Tryz.prog 73 #[.pointer (some ⟨b, 0, none⟩), .string s] w fun e w' => e = .returned (.tuple #[.int .i64 s.size, .nilIface]) ∧ (Lib.BuilderAtF 105 5 B b (.pointer (some ⟨b, 0, none⟩)) (bs ++ Lib.strCells s) w' ∧ Below B w w') := by
  obtain ⟨i0, hi, hz0, hz1, hz2⟩ := info_parts Tryz.infoByte
  go_enter Tryz.func73, Tryz.ntmps73
  go_wp2_with (go_at_call 98; refine (cc_any B b bs _ h).mono ?_)
  rintro e w1 ⟨rfl, h1, hb1⟩
  obtain ⟨hB, v, hbk, hown, hne⟩ := h1
  have c0 : w1.cell? ⟨b, 0, none⟩ = some (.pointer (some ⟨b, 0, none⟩)) := by rw [Lib.cell_of_heap hbk]; rfl
  have c1 : w1.cell? ⟨b, 1, none⟩ = some v := by rw [Lib.cell_of_heap hbk]; rfl
  go_wp2_with (at_builtin; refine Lib.wpList_append_own_stringF _ rfl _ _ 84 9 rfl B 5 i0 Tryz.underlying84 Tryz.underlying9 hi hz0 hz1 hz2 _ _ _ rfl hown s rfl ?c3 ?c4 ?c5 ?_)
  case c3 => unfold maxLen; omega
  case c4 => omega
  case c5 => have := hb1.size; omega
  intro v' w2 hown' hgrow _
  have hlt : b < w1.heap.size := ltOf hbk
  have hb2 : w2.heap[b]? = some (.cells #[.pointer (some ⟨b, 0, none⟩), v] 105 (0, 0)) := by
    rw [hgrow.block b hlt (fun e => hne e.symm)]
    exact hbk
  have d0 : w2.cell? ⟨b, 0, none⟩ = some (.pointer (some ⟨b, 0, none⟩)) := by rw [Lib.cell_of_heap hb2]; rfl
  have d1 : w2.cell? ⟨b, 1, none⟩ = some v := by rw [Lib.cell_of_heap hb2]; rfl
  have f1 : w2.frozen? ⟨b, 1, none⟩ = false := Lib.frozen_of_heap hb2 1
  obtain ⟨ao, n', cap, rfl⟩ : ∃ ao n' cap, v' = .slice ao n' cap := by
    rcases hown'.2 with ⟨hv, _⟩ | ⟨g, cap, cur, fz, hv, _⟩
    · exact ⟨_, _, _, hv⟩
    · exact ⟨_, _, _, hv⟩
  go_wp2
  go_ret2
  refine ⟨rfl, ?_, ?_⟩
  · exact Lib.BuilderAtF.put (T := 105) (e := 5) hB hb2 (bs' := bs ++ Lib.strCells s) (by simpa [Lib.strCells_length] using hown') (by decide)
  · exact (hb1.grown hgrow (by have := hb1.size; omega) (fun k hk => (hown.lt k hk).1)).setCell (p := ⟨b, 1, none⟩) hB _
theorem bld_str {b : Nat} {l : List UInt8} {w : World} (h : Bld b l w) (s : List UInt8) (hl : l.length + s.length ≤ 100000000000) :
    Calls Tryz.prog 73 #[.pointer (some ⟨b, 0, none⟩), .string (mkS s)] w fun e w' => e = .returned (.tuple #[.int .i64 s.length, .nilIface]) ∧ Bld b (l ++ s) w' ∧ Below b w w' :=
  (ws_any b b (Lib.byteCells l) (mkS s) w h (by rw [byteCells_len, mkS_size]; omega) (Nat.le_of_lt h.lt)).mono fun _ _ ⟨he, hb, hw⟩ => ⟨by rw [he, mkS_size], .inr (by have := byteCells_str l (mkS s); rw [mkS_data] at this; rw [← this]; exact hb), hw⟩
end Go.Proofs.YtojpkbonioglbaaGreatDoor
/-
  Stores and loads of many cells in one step.
-/
namespace Go.Proofs.YtojpkbonioglbaaGreatDoor
set_option maxRecDepth 100000
open Go.RowKit
/-- Whatever lay below n, but for one block, lies as it lay. -/
structure Apart (mb n : Nat) (a w : World) : Prop where
  os : w.os = a.os
  tape : w.tape = a.tape
  output : w.output = a.output
  size : a.heap.size ≤ w.heap.size
  block : ∀ k, k < n → k ≠ mb → w.heap[k]? = a.heap[k]?
theorem Apart.refl (mb n : Nat) (w : World) : Apart mb n w w := ⟨rfl, rfl, rfl, Nat.le_refl _, fun _ _ _ => rfl⟩
theorem Apart.of {mb n : Nat} {a w : World} (h : Below n a w) : Apart mb n a w := ⟨h.os, h.tape, h.output, h.size, fun k hk _ => h.block k hk⟩
theorem Apart.trans {mb n : Nat} {a b c : World} (h : Apart mb n a b) (k : Apart mb n b c) : Apart mb n a c :=
  ⟨k.os.trans h.os, k.tape.trans h.tape, k.output.trans h.output, Nat.le_trans h.size k.size, fun i hi hne => (k.block i hi hne).trans (h.block i hi hne)⟩
theorem Apart.mono {mb n m : Nat} {a w : World} (h : Apart mb n a w) (hm : m ≤ n) : Apart mb m a w := ⟨h.os, h.tape, h.output, h.size, fun k hk hne => h.block k (Nat.lt_of_lt_of_le hk hm) hne⟩
theorem Apart.next {mb : Nat} {a b c : World} (h : Apart mb a.heap.size a b) (k : Apart mb b.heap.size b c) : Apart mb a.heap.size a c := h.trans (k.mono h.size)
theorem Apart.set {mb n : Nat} {a w : World} (h : Apart mb n a w) (i : Nat) (v : Value) : Apart mb n a (w.setCell ⟨mb, i, none⟩ v) :=
  ⟨h.os, h.tape, h.output, by rw [World.size_setCell]; exact h.size, fun k hk hne => (Below.heap_setCell _ _ _ k (fun e => hne e)).trans (h.block k hk hne)⟩
theorem Apart.cell {mb n : Nat} {a w : World} (h : Apart mb n a w) {b : Nat} (hb : b < n) (hne : b ≠ mb) (o : Nat) (x : Option Nat) : w.cell? ⟨b, o, x⟩ = a.cell? ⟨b, o, x⟩ := by
  simp only [World.cell?, h.block b hb hne]
theorem Apart.below {mb n m : Nat} {a w : World} (h : Apart mb n a w) (h1 : m ≤ n) (h2 : m ≤ mb) : Below m a w := ⟨h.os, h.tape, h.output, h.size, fun k hk => h.block k (by omega) (by omega)⟩
section
variable {P : Program} {ops : Array Oper} {rest : List Oper} {op : Oper} {a : Act} {w : World} {Q : Exit → Act → World → Prop}
theorem setCells_block (b : Nat) (t : TypeId) : ∀ (vs : List Value) (o : Nat) (cs : Array Value) (w : World), w.heap[b]? = some (.cells cs t (0, 0)) → o + vs.length ≤ cs.size → ∃ cs', (w.setCells b o vs).heap[b]? = some (.cells cs' t (0, 0)) ∧ cs'.size = cs.size ∧ (∀ i, i < o → cs'[i]? = cs[i]?) ∧ (∀ j, j < vs.length → cs'[o + j]? = vs[j]?) ∧ (∀ i, o + vs.length ≤ i → cs'[i]? = cs[i]?)
  | [], o, cs, w, h, _ => ⟨cs, h, rfl, fun _ _ => rfl, fun _ hj => absurd hj (Nat.not_lt_zero _), fun _ _ => rfl⟩
  | v :: vs, o, cs, w, h, hl => by
    rw [List.length_cons] at hl
    obtain ⟨cs', h1, h2, h3, h4, h5⟩ := setCells_block b t vs (o + 1) (cs.setIfInBounds o v) (w.setCell ⟨b, o, none⟩ v) (setOf h o v) (by simp; omega)
    refine ⟨cs', h1, by simpa using h2, fun i hi => ?_, fun j hj => ?_, fun i hi => ?_⟩
    · rw [h3 i (by omega), Array.getElem?_setIfInBounds_ne (by omega)]
    · cases j with
      | zero =>
        have ho : o < cs.size := by omega
        rw [Nat.add_zero, h3 o (by omega), Array.getElem?_setIfInBounds_self_of_lt ho]; rfl
      | succ j => rw [List.length_cons] at hj; rw [List.getElem?_cons_succ, ← h4 j (by omega)]; congr 1; omega
    · rw [List.length_cons] at hi; rw [h5 i (by omega), Array.getElem?_setIfInBounds_ne (by omega)]
theorem setCells_apart (b : Nat) : ∀ (vs : List Value) (o : Nat) (w : World), Apart b w.heap.size w (w.setCells b o vs)
  | [], _, w => Apart.refl _ _ _
  | v :: vs, o, w => by
    have h := setCells_apart b vs (o + 1) (w.setCell ⟨b, o, none⟩ v)
    rw [World.size_setCell] at h
    exact (Apart.set (Apart.refl b w.heap.size w) o v).trans h
/-- A store of many cells into the midst of a block that is known whole. -/
theorem wpList_store_blk (hgd : op.guard = none) (ty : TypeId) (x y : Operand) (ho : op.op = .store ty x y) (b o : Nat) (t : TypeId) (cs vs cs' : Array Value) (hx : a.eval x = .pointer (some ⟨b, o, none⟩)) (hy : a.eval y = .agg vs)
    (hb : w.heap[b]? = some (.cells cs t (0, 0))) (hi : (P.info? ty).map (·.size) = some vs.size) (h1 : vs.all (·.oneCell') = true) (hs : o + vs.size ≤ cs.size) (hc : cs' = (cs.toList.take o ++ vs.toList ++ cs.toList.drop (o + vs.size)).toArray)
    (h : ∀ w', w'.heap[b]? = some (.cells cs' t (0, 0)) → Apart b w.heap.size w w' → wpList P ops Q rest (a.put op.dst undef) w') : wpList P ops Q (op :: rest) a w := by
  refine wpList_store_mid hgd ty x y ho b o vs hx hy (fun j hj => ⟨?_, freeOf hb _⟩) hi h1 ?_
  · rw [cellOf hb, Array.getElem?_eq_getElem (by omega)]; rfl
  · obtain ⟨c2, k1, k2, k3, k4, k5⟩ := setCells_block b t vs.toList o cs w hb (by simpa using hs)
    refine h _ ?_ (setCells_apart b vs.toList o w)
    rw [k1]
    have : c2 = cs' := by
      rw [hc]
      apply Array.toList_inj.1
      show c2.toList = cs.toList.take o ++ vs.toList ++ cs.toList.drop (o + vs.size)
      apply List.ext_getElem?
      intro i
      rw [Array.getElem?_toList]
      have l1 : (cs.toList.take o).length = o := by rw [List.length_take, Array.length_toList]; omega
      by_cases hi : i < o
      · rw [k3 i hi, List.append_assoc, List.getElem?_append_left (by omega), List.getElem?_take_of_lt hi, Array.getElem?_toList]
      · by_cases hi2 : i < o + vs.size
        · obtain ⟨j, rfl⟩ : ∃ j, i = o + j := ⟨i - o, by omega⟩
          rw [k4 j (by rw [Array.length_toList]; omega), List.append_assoc, List.getElem?_append_right (by omega), l1, Nat.add_sub_cancel_left, List.getElem?_append_left (by rw [Array.length_toList]; omega)]
        · rw [k5 i (by rw [Array.length_toList]; omega), List.getElem?_append_right (by rw [List.length_append, l1, Array.length_toList]; omega), List.length_append, l1, Array.length_toList, List.getElem?_drop, Array.getElem?_toList]
          congr 1; omega
    rw [this]
/-- A load of a block's cells, from o on. -/
theorem wpList_load_blk (hgd : op.guard = none) (ty : TypeId) (x : Operand) (ho : op.op = .load ty x) (b o : Nat) (t : TypeId) (cs vs : Array Value) (d : TypeDesc) (hx : a.eval x = .pointer (some ⟨b, o, none⟩)) (hb : w.heap[b]? = some (.cells cs t (0, 0)))
    (hu : P.underlying ty = some d) (hd : d.isRow = true) (hi : (P.info? ty).map (·.size) = some vs.size) (hc : ∀ j, j < vs.size → cs[o + j]? = vs[j]?)
    (h : wpList P ops Q rest (a.put op.dst (.agg vs)) w) : wpList P ops Q (op :: rest) a w := by
  refine wpList_load_mid hgd ty x ho b o hx vs.toList d (fun j v hv => ?_) hu hd (by simpa using hi) (by simpa using h)
  rw [cellOf hb]
  rw [Array.getElem?_toList] at hv
  rw [hc j (Array.getElem?_eq_some_iff.1 hv).1]; exact hv
theorem loadVar_blk {ty t : TypeId} {b o : Nat} {cs vs : Array Value} {d : TypeDesc} (hb : w.heap[b]? = some (.cells cs t (0, 0))) (hu : P.underlying ty = some d) (hd : d.isRow = true) (hi : (P.info? ty).map (·.size) = some vs.size) (hc : ∀ j, j < vs.size → cs[o + j]? = vs[j]?) :
    (loadVar ty ⟨b, o, none⟩).run P w = .ok (.agg vs) w := by
  have := run_loadVar_mid (P := P) w b o ty vs.toList d (fun j v hv => by
    rw [cellOf hb]
    rw [Array.getElem?_toList] at hv
    rw [hc j (Array.getElem?_eq_some_iff.1 hv).1]; exact hv) hu hd (by simpa using hi)
  simpa using this
end
end Go.Proofs.YtojpkbonioglbaaGreatDoor
