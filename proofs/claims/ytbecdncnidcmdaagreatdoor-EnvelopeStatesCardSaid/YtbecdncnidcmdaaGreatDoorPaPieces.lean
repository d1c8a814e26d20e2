/-
  The walks of param's pieces: the range over the parts of a text.
-/
import Derived.Test.YtbecdncnidcmdaaGreatDoorPaNum
import Derived.RangeFuncNested
import Derived.RangeFuncBound
import Derived.RangeFuncCalls
import Derived.RangeFuncLeaves
import Derived.RangeFuncBox
import Derived.RangeFuncWrites
import Derived.Shelf.Abstract
import Derived.Shelf.RegionOpen
import Derived.OwnWalkIn
import Derived.TacticsInMore
import Derived.LoopNIn
import Derived.LoopIn
namespace Go.Proofs.YtbecdncnidcmdaaGreatDoor
set_option maxRecDepth 100000
open Go.RowKit Go.Shelf
theorem pieces_x (c : UInt8) (s : List UInt8) (w : World) :
    Calls Tryz.prog 311 #[.string (mkS s), .string ⟨#[c]⟩] w fun e w' => e = .returned (.func (.func 349) #[] #[.pointer (some ⟨w.heap.size, 0, none⟩), .pointer (some ⟨w.heap.size + 1, 0, none⟩)]) ∧ w' = (w.alloc (.cells #[.string (mkS s)] 9)).alloc (.cells #[.string ⟨#[c]⟩] 9) := by
  go_enter Tryz.func311, Tryz.ntmps311
  go_wp2_with fail
  go_ret
  exact ⟨rfl, rfl⟩

/-- A cell that holds something holds it still. -/
def KeepsCell (a : Addr) (W W' : World) : Prop := ∀ v, W.cell? a = some v → W'.cell? a = some v
theorem keepsCell_t {a : Addr} {A B C : World} (h : KeepsCell a A B) (k : KeepsCell a B C) : KeepsCell a A C := fun v hv => k v (h v hv)
theorem keepsCell_b {a : Addr} (W : World) (l : Nat) (o o' : Obj) (hl : W.heap[l]? = some o) (ho : o.isCells = false) : KeepsCell a W (W.putObj l o') := fun _ hv => cell_kept hv (grownBy_putObj' W l o') (fun r e => by cases e; exact ⟨o, hl, ho⟩)
/-- How much is left of the range over parts. -/
def ptMeas : Value → Value → Nat
  | .string b, .bool true => b.size + 1
  | _, _ => 0
theorem grown_drewN (w : World) (n : Nat) : w.grownBy (w.drewN n) none := ⟨rfl, rfl, rfl, Nat.le_refl _, fun _ _ _ => rfl⟩
theorem abides_drewN {β : Type} {B : Nat} {J : β → World → Prop} (h : AbidesFrom B J) {s : β} {W : World} (hs : J s W) (n : Nat) : J s (W.drewN n) := h s W _ none hs (grown_drewN W n) (fun r e => by cases e)
/-- A text of a size that memory can hold: what a round is told of what it is handed. -/
def capL (x : List UInt8) : List UInt8 := x.take 1000000000
theorem capL_le (x : List UInt8) : (capL x).length ≤ 1000000000 := by simp [capL]; omega
theorem capL_id {x : List UInt8} (h : x.length ≤ 1000000000) : capL x = x := List.take_of_length_le h
theorem cap_all (c : UInt8) (f : List UInt8 → Bool) (s : List UInt8) (hs : s.length ≤ 1000000000) : (splitC c s).all (fun x => f (capL x)) = (splitC c s).all f := by
  rw [Bool.eq_iff_iff, List.all_eq_true, List.all_eq_true]
  refine forall_congr' fun x => forall_congr' fun hx => ?_
  rw [capL_id (Nat.le_trans (splitC_le c s x hx) hs)]

attribute [local go_sem] Oper.semAt_some
set_option maxRecDepth 100000 in
set_option maxHeartbeats 2000000 in
theorem pieces1_in (c : UInt8) (n : Nat) (hn : 1 ≤ n) (l Bs Cs B : Nat) (s : List UInt8) (hs : s.length ≤ 1000000000) (J Jx : List (List UInt8) → World → Prop) (hJ : AbidesFrom B J)
    (hY : ∀ pre x W, J pre W → pre.length < (splitC c s).length → YieldAt Fence.wide (n - 1) Tryz.prog l #[.string (mkS (capL x))] W fun e W' =>
      (e = .returned (.bool true) ∧ J (pre ++ [x]) W' ∧ KeepsCell ⟨Cs, 0, none⟩ W W') ∨ (e = .returned (.bool false) ∧ Jx (pre ++ [x]) W'))
    (W : World) (hCs : W.cell? ⟨Cs, 0, none⟩ = some (.string ⟨#[c]⟩)) (hBs : W.cell? ⟨Bs, 0, none⟩ = some (.string (mkS s))) (h0 : J [] W) :
    CallsIn Fence.wide n Tryz.prog 349 #[.func (.yield l) #[] #[], .pointer (some ⟨Bs, 0, none⟩), .pointer (some ⟨Cs, 0, none⟩)] W fun e W' => (∃ v, e = .returned v) ∧
      ((∃ ys, ys = splitC c s ∧ J ys W') ∨ (∃ pre, pre <+: splitC c s ∧ Jx pre W')) := by
  refine callsIn_of_wp Tryz.func349 rfl trivial ?_ rfl
  simp only [Tryz.ntmps349, List.size_toArray, List.length_cons, List.length_nil, Nat.reduceAdd, Nat.reduceSub, Array.replicate_succ, Array.replicate_zero, List.push_toArray, List.append_toArray, List.nil_append, List.cons_append]
  gi_wp2
  gi_loopw [4, 5] (fun rest more wr => ∃ (pre post : List (List UInt8)) (r : List UInt8), rest = .string (mkS r) ∧ splitC c s = pre ++ post ∧ J pre wr ∧ r.length ≤ s.length ∧ wr.cell? ⟨Cs, 0, none⟩ = some (.string ⟨#[c]⟩) ∧ ((more = .bool true ∧ post = splitC c r) ∨ (more = .bool false ∧ post = [])))
    (fun rest more _ => ptMeas rest more)
  case atStart => exact ⟨[], splitC c s, s, rfl, rfl, h0, Nat.le_refl _, hCs, .inl ⟨rfl, rfl⟩⟩
  case round =>
    obtain ⟨pre, post, r, rfl, hp, hJs, hr, hcs, ⟨rfl, rfl⟩ | ⟨rfl, rfl⟩⟩ := hrel
    · have hlen : pre.length < (splitC c s).length := by
        rw [hp]
        cases hh : hasC c r
        · rw [splitC_no hh]; simp
        · rw [splitC_yes hh]; simp
      have hsp : (hasC c r = true ∧ splitC c r = preC c r :: splitC c (postC c r) ∧ (postC c r).length < r.length) ∨ (hasC c r = false ∧ splitC c r = [preC c r]) := by
        cases hh : hasC c r
        · exact .inr ⟨rfl, by rw [splitC_no hh, (cut_no hh).1]⟩
        · exact .inl ⟨rfl, splitC_yes hh, post_len hh⟩
      have hpl := post_le c r
      have hxl := pre_le c r
      have HC := Lib.hid (fun w => cut_x c r w (by omega))
      generalize preC c r = x at hsp HC hxl
      generalize postC c r = r' at hsp HC hpl
      generalize hasC c r = q at hsp HC
      have HSP := Lib.hid hsp
      clear hsp
      gi_wp2
      refine ⟨trivial, (callsIn_wide.2 (HC.out _)).mono ?_⟩
      rintro e w1 ⟨rfl, k, rfl⟩
      have hJ1 := abides_drewN hJ hJs k
      obtain ⟨fn, tmps, assign, body, hy, hR⟩ := hY pre x (wr.drewN k) hJ1 hlen
      rw [capL_id (show x.length ≤ 1000000000 by omega)] at hy
      gi_wp2
      refine hR.mono ?_
      rintro e W3 (⟨rfl, hJ3, hk3⟩ | ⟨rfl, hJx3⟩)
      · have hcs3 := hk3 _ (show (wr.drewN k).cell? ⟨Cs, 0, none⟩ = some (.string ⟨#[c]⟩) from hcs)
        gi_wp2
        go_roundw
        case rel =>
          rcases HSP.out with ⟨rfl, h2, h3⟩ | ⟨rfl, h2⟩
          · exact ⟨pre ++ [x], splitC c r', r', rfl, by rw [hp, h2]; simp, hJ3, by omega, hcs3, .inl ⟨rfl, rfl⟩⟩
          · exact ⟨pre ++ [x], [], r', rfl, by rw [hp, h2]; simp, hJ3, by omega, hcs3, .inr ⟨rfl, rfl⟩⟩
        case measure =>
          rcases HSP.out with ⟨rfl, h2, h3⟩ | ⟨rfl, h2⟩
          · simp only [ptMeas, mkS_size]; omega
          · simp only [ptMeas]; omega
      · gi_wp2
        refine bodyPost_ret (results_none rfl _ _ _) rfl ?_
        refine ⟨⟨_, rfl⟩, .inr ⟨pre ++ [x], ?_, hJx3⟩⟩
        rcases HSP.out with ⟨rfl, h2, h3⟩ | ⟨rfl, h2⟩
        · exact ⟨splitC c r', by rw [hp, h2]; simp⟩
        · exact ⟨[], by rw [hp, h2]; simp⟩
    · gi_wp2
      go_end0
      exact ⟨⟨_, rfl⟩, .inl ⟨pre, by rw [hp, List.append_nil], hJs⟩⟩
theorem pieces_stops (c : UInt8) (n : Nat) (hn : 1 ≤ n) (Bs Cs : Nat) (s : List UInt8) (hs : s.length ≤ 1000000000) (w : World) (hBs : Bs < w.heap.size) (hb : w.cell? ⟨Bs, 0, none⟩ = some (.string (mkS s))) (hCs : Cs < w.heap.size) (hc : w.cell? ⟨Cs, 0, none⟩ = some (.string ⟨#[c]⟩)) :
    SeqStopsK Fence.wide n Tryz.prog 349 #[.pointer (some ⟨Bs, 0, none⟩), .pointer (some ⟨Cs, 0, none⟩)] (fun x : List UInt8 => #[Value.string (mkS (capL x))]) (KeepsCell ⟨Cs, 0, none⟩) (fun ys => ys = splitC c s) (fun pre => pre <+: splitC c s) (splitC c s).length w := fun l J Jx W hW hJ _ hY h0 =>
  pieces1_in c n hn l Bs Cs W.heap.size s hs J Jx hJ hY W ((hW.cell (p := ⟨Cs, 0, none⟩) hCs).trans hc) ((hW.cell (p := ⟨Bs, 0, none⟩) hBs).trans hb) h0
end Go.Proofs.YtbecdncnidcmdaaGreatDoor
