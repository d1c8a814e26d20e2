/-
  Rows of bytes of the call's own: append of one, or three, and string(row).
-/
import Derived.Test.YtdjgjmbgcjhnpaaBase
import Derived.Laws.BytesString
import Derived.Maps.AppendAt
import Derived.Deep.AppendLies
namespace Go.Proofs.Ytdjgjmbgcjhnpaa
set_option maxRecDepth 100000
open Go.RowKit
theorem Try.infoB : (Try.prog.info? 5).map (fun i => (i.zero, i.size, i.bytes)) = some (some (.int .u8 0), 1, 1) := by kernel_rfl
/-- Bytes as the model's cells. -/
def bytesV (l : List UInt8) : List Value := l.map fun b => .int .u8 (b.toNat : Int)
theorem bytesV_length (l : List UInt8) : (bytesV l).length = l.length := by simp [bytesV]
theorem bytesV_append (l m : List UInt8) : bytesV (l ++ m) = bytesV l ++ bytesV m := by simp [bytesV]
theorem push_fold : ∀ (l : List UInt8) (s : ByteArray), (l.map fun b => (b.toNat : Int)).foldl (fun r n => r.push (UInt8.ofNat n.toNat)) s = ⟨(s.data.toList ++ l).toArray⟩
  | [], s => by simp
  | b :: l, s => by
    rw [List.map_cons, List.foldl_cons, push_fold l]
    simp [ByteArray.push]
/-- Bytes in memory, as a text. -/
theorem conv_bytes (w : World) (a : Addr) (l : List UInt8) (n cap : Nat) (hn : l.length = n) (h : ∀ j v, (bytesV l)[j]? = some v → w.cell? (a.add j) = some v) :
    (convert 56 9 (.slice (some a) n cap)).run Try.prog w = .ok (.string (mkS l)) w := by
  rw [run_convert_bytes_string w 56 9 5 (some a) n cap Try.underlying56 Try.underlying5 Try.underlying9]
  have hl := run_loadCells_list (P := Try.prog) w a (bytesV l) h
  rw [bytesV_length, hn] at hl
  rw [run_bytesToString w a n cap (l.map fun b => (b.toNat : Int)) (by rw [hl]; simp [bytesV]), push_fold]
  rfl
theorem conv_own {w : World} {B : Nat} {v : Value} {l : List UInt8} (h : w.ownsRow B 5 1 v l.length (bytesV l)) : (convert 56 9 v).run Try.prog w = .ok (.string (mkS l)) w := by
  rcases h.2 with ⟨rfl, h0⟩ | ⟨g, cap, cur, rfl, _⟩
  · have e : l = [] := List.eq_nil_of_length_eq_zero h0
    subst e
    rw [run_convert_bytes_string w 56 9 5 none 0 0 Try.underlying56 Try.underlying5 Try.underlying9]
    simp [Conv.bytesToString]
    rfl
  · exact conv_bytes w _ l _ cap rfl (fun j v hj => h.cells rfl j v hj)
/-- One byte in a new block, as a text. -/
theorem conv_new (w : World) (b : UInt8) (c : Nat) (hc : c = w.heap.size) : (convert 56 9 (.slice (some ⟨c, 0, none⟩) 1 1)).run Try.prog (w.alloc (.cells #[.int .u8 (b.toNat : Int)] 5)) = .ok (.string (mkS [b])) (w.alloc (.cells #[.int .u8 (b.toNat : Int)] 5)) := by
  subst hc
  refine conv_bytes _ _ [b] 1 1 rfl fun j v hj => ?_
  match j with
  | 0 => simp [bytesV] at hj; subst hj; exact World.cell?_alloc_at _ _ _ _ rfl
  | j + 1 => simp [bytesV] at hj
theorem cells_new (w : World) (l : List UInt8) (cs : Array Value) (hcs : cs.toList = bytesV l) (c : Nat) (hc : c = w.heap.size) : ∀ j u, (bytesV l)[j]? = some u → (w.alloc (.cells cs 5)).cell? ((⟨c, 0, none⟩ : Addr).add j) = some u := by
  intro j u hj
  rw [show (⟨c, 0, none⟩ : Addr).add j = ⟨c, j, none⟩ by unfold Addr.add; split <;> simp_all, World.cell?_alloc_at _ _ _ _ hc, ← Array.getElem?_toList, hcs]
  exact hj
/-- append of bytes of a new block onto a row of bytes of the call's own. -/
theorem app_bytes {w : World} {ops : Array Oper} {rest : List Oper} {o : Oper} {a : Act} {Q : Exit → Act → World → Prop} (hgd : o.guard = none) (s x : Operand)
    (ho : o.op = .call { callee := .builtin .append, args := #[s, x], argTypes := #[56, 56] }) (base : Nat) (v : Value) (l : List UInt8) (hs : a.eval s = v) (hown : w.ownsRow base 5 1 v l.length (bytesV l))
    (ad : Addr) (m c : Nat) (news : List UInt8) (hx : a.eval x = .slice (some ad) m c) (hl : news.length = m) (hnews : ∀ j u, (bytesV news)[j]? = some u → w.cell? (ad.add j) = some u) (h9 : l.length + m ≤ 100000000000) (hbase : base ≤ w.heap.size)
    (h : ∀ v' w', w'.ownsRow base 5 1 v' (l ++ news).length (bytesV (l ++ news)) → w.grownBy w' v.ownBlock → wpList Try.prog ops Q rest (a.put o.dst v') w') :
    wpList Try.prog ops Q (o :: rest) a w := by
  obtain ⟨i0, hi, hz0, hz1, hz2⟩ := info_parts Try.infoB
  refine wpList_append_own_at (w := w) hgd s x 56 ho base 5 i0 (.int .u8 0) 1 1 Try.underlying56 hi hz0 hz1 hz2 rfl (by decide) v l.length (bytesV l) hs hown ad m c (bytesV news) hx (by rw [bytesV_length]; omega) hnews ?_ (by unfold maxLen; omega) (by omega) hbase ?_
  · intro u hu
    obtain ⟨b, _, rfl⟩ := List.mem_map.1 hu
    rfl
  · intro v' w' h1 h2 _ _
    refine h v' w' ?_ h2
    rw [List.length_append, hl, bytesV_append]
    exact h1
/-- The same at a step of a region that draws its order. -/
theorem step_bytes {w : World} {ops : Array Oper} {o : Oper} {a : Act} {K : Act → World → Prop} {Q : Exit → Act → World → Prop} {E : Prop} (hgd : o.guard = none) (s x : Operand)
    (ho : o.op = .call { callee := .builtin .append, args := #[s, x], argTypes := #[56, 56] }) (base : Nat) (v : Value) (l : List UInt8) (hs : a.eval s = v) (hown : w.ownsRow base 5 1 v l.length (bytesV l))
    (ad : Addr) (m c : Nat) (news : List UInt8) (hx : a.eval x = .slice (some ad) m c) (hl : news.length = m) (hnews : ∀ j u, (bytesV news)[j]? = some u → w.cell? (ad.add j) = some u) (hm : 0 < m) (h9 : l.length + m ≤ 100000000000) (hbase : base ≤ w.heap.size)
    (h : ∀ v' w', w'.ownsRow base 5 1 v' (l ++ news).length (bytesV (l ++ news)) → w.grownBy w' v.ownBlock → K (a.put o.dst v') w') :
    if Region.wanted o (yielded ops a.tmps) = true then Oper.wp Try.prog o a w K Q else E := by
  obtain ⟨i0, hi, hz0, hz1, hz2⟩ := info_parts Try.infoB
  refine step_append_lies w hgd s x 56 ho base 5 i0 (.int .u8 0) 1 1 Try.underlying56 hi hz0 hz1 hz2 rfl (by decide) v l.length (bytesV l) hs hown ad m c (bytesV news) hx (by rw [bytesV_length]; omega) hnews ?_ hm (by unfold maxLen; omega) (by omega) hbase _ rfl ?_
  · intro u hu
    obtain ⟨b, _, rfl⟩ := List.mem_map.1 hu
    rfl
  · intro g cap w' h1 h2 _ _
    refine h _ w' ?_ h2
    rw [List.length_append, hl, bytesV_append]
    exact h1
theorem bytes_grown {w0 w w' : World} {v : Value} {l : List UInt8} (hb : Below w0.heap.size w0 w) (hown : w.ownsRow w0.heap.size 5 1 v l.length (bytesV l)) {o : Obj} (hg : (w.alloc o).grownBy w' v.ownBlock) : Below w0.heap.size w0 w' :=
  (hb.alloc hb.size o).grown hg (by have := hb.size; simp; omega) (fun k hk => (hown.lt k hk).1)
end Go.Proofs.Ytdjgjmbgcjhnpaa
