/-
  Rows of bytes of the call's own: append of one, or three, and string(row).
-/
import Derived.Test.YthnjofgeghpdoaaBase
import Derived.Laws.BytesString
namespace Go.Proofs.Ythnjofgeghpdoaa
open Go.RowKit
theorem Try.infoB : (Try.prog.info? 5).map (fun i => (i.zero, i.size, i.bytes)) = some (some (.int .u8 0), 1, 1) := by kernel_rfl
/-- Bytes as the model's cells. -/
def bytesV (l : List UInt8) : List Value := l.map fun b => .int .u8 (b.toNat : Int)
theorem bytesV_length (l : List UInt8) : (bytesV l).length = l.length := by simp [bytesV]
theorem bytesV_append (l m : List UInt8) : bytesV (l ++ m) = bytesV l ++ bytesV m := by simp [bytesV]
theorem push_fold : ∀ (l : List UInt8) (s : ByteArray), (l.map fun b => (b.toNat : Int)).foldl (fun r n => r.push (UInt8.ofNat n.toNat)) s = ⟨(s.data.toList ++ l).toArray⟩
  | [], s => by simp
  | b :: l, s => by
    rw [List.map_cons, List.foldl_cons, push_fold l]
    simp [ByteArray.push]
/-- Bytes in memory, as a text. -/
theorem conv_bytes (w : World) (a : Addr) (l : List UInt8) (n cap : Nat) (hn : l.length = n) (h : ∀ j v, (bytesV l)[j]? = some v → w.cell? (a.add j) = some v) :
    (convert 31 9 (.slice (some a) n cap)).run Try.prog w = .ok (.string (mkS l)) w := by
  rw [run_convert_bytes_string w 31 9 5 (some a) n cap Try.underlying31 Try.underlying5 Try.underlying9]
  have hl := run_loadCells_list (P := Try.prog) w a (bytesV l) h
  rw [bytesV_length, hn] at hl
  rw [run_bytesToString w a n cap (l.map fun b => (b.toNat : Int)) (by rw [hl]; simp [bytesV]), push_fold]
  rfl
theorem conv_own {w : World} {B : Nat} {v : Value} {l : List UInt8} (h : w.ownsRow B 5 1 v l.length (bytesV l)) : (convert 31 9 v).run Try.prog w = .ok (.string (mkS l)) w := by
  rcases h.2 with ⟨rfl, h0⟩ | ⟨g, cap, cur, rfl, _⟩
  · have e : l = [] := List.eq_nil_of_length_eq_zero h0
    subst e
    rw [run_convert_bytes_string w 31 9 5 none 0 0 Try.underlying31 Try.underlying5 Try.underlying9]
    simp [Conv.bytesToString]
    rfl
  · exact conv_bytes w _ l _ cap rfl (fun j v hj => h.cells rfl j v hj)
/-- One byte in a new block, as a text. -/
theorem conv_new (w : World) (b : UInt8) (c : Nat) (hc : c = w.heap.size) : (convert 31 9 (.slice (some ⟨c, 0, none⟩) 1 1)).run Try.prog (w.alloc (.cells #[.int .u8 (b.toNat : Int)] 5)) = .ok (.string (mkS [b])) (w.alloc (.cells #[.int .u8 (b.toNat : Int)] 5)) := by
  subst hc
  refine conv_bytes _ _ [b] 1 1 rfl fun j v hj => ?_
  match j with
  | 0 => simp [bytesV] at hj; subst hj; exact World.cell?_alloc_at _ _ _ _ rfl
  | j + 1 => simp [bytesV] at hj
end Go.Proofs.Ythnjofgeghpdoaa
