/-
  PaDoes · PaBy · PaNote · PaNotd · PaMap · PaRead · PaRcpt, in one text.
-/
import Derived.Test.YtojpkbonioglbaaGreatDoorPaPieces
import Derived.Test.YtojpkbonioglbaaGreatDoorMaBuild
import Derived.Test.YtojpkbonioglbaaGreatDoorMaDate
import Derived.LoopN
import Derived.Maps.OwnIn
/- 
  The walks of what a message's keys do: decode, number's and name's closures.
-/
namespace Go.Proofs.YtojpkbonioglbaaGreatDoor
set_option maxRecDepth 100000
open Go.RowKit
/-- What a call that tells block mb something leaves: that block's cells, and all else as it lay. -/
def Told (mb : Nat) (cs : Array Value) (t : TypeId) (w w' : World) : Prop := Apart mb w.heap.size w w' ∧ w'.heap[mb]? = some (.cells cs t (0, 0))
theorem Told.of {mb : Nat} {cs : Array Value} {t : TypeId} {w w' : World} (h : w.heap[mb]? = some (.cells cs t (0, 0))) (hb : Below w.heap.size w w') : Told mb cs t w w' :=
  ⟨.of hb, (hb.block mb (ltOf h)).trans h⟩
theorem Told.after {mb : Nat} {cs : Array Value} {t : TypeId} {w w1 w' : World} (hb : Below w.heap.size w w1) (h : Told mb cs t w1 w') : Told mb cs t w w' :=
  ⟨(Apart.of hb).next h.1, h.2⟩
theorem Told.then {mb : Nat} {cs cs' : Array Value} {t : TypeId} {w w1 w' : World} (h1 : Told mb cs t w w1) (h : Told mb cs' t w1 w') : Told mb cs' t w w' :=
  ⟨h1.1.next h.1, h.2⟩
theorem Told.set {mb : Nat} {cs : Array Value} {t : TypeId} {w w' : World} (h : Told mb cs t w w') (i : Nat) (v : Value) : Told mb (cs.setIfInBounds i v) t w (w'.setCell ⟨mb, i, none⟩ v) :=
  ⟨h.1.set i v, setOf h.2 i v⟩
theorem Told.drew {mb : Nat} {cs : Array Value} {t : TypeId} {w w' : World} (h : Told mb cs t w w') : Told mb cs t w w'.drew := ⟨⟨h.1.os, h.1.tape, h.1.output, h.1.size, h.1.block⟩, h.2⟩
theorem Told.drewN {mb : Nat} {cs : Array Value} {t : TypeId} {w w' : World} (h : Told mb cs t w w') (n : Nat) : Told mb cs t w (w'.drewN n) := ⟨⟨h.1.os, h.1.tape, h.1.output, h.1.size, h.1.block⟩, h.2⟩
theorem drew_below (w : World) (n : Nat) : Below w.heap.size w (w.drewN n) := below_drewN (Below.refl _ w) n

/-- What decode leaves in a block. -/
def decC (v : Txt) (most : Nat) (cs : Array Value) (i : Nat) : Array Value := if decdE v most = 0 then cs.setIfInBounds i (.string (mkS (X.decS v))) else cs
/-- A function value that tells a text's number. -/
def ParseK (k : Nat) (V E : Txt → Int) : Prop := ∀ (l : Txt) (w : World), l.length ≤ 1000000000000 → Calls Tryz.prog k #[.string (mkS l)] w fun e w' => e = .returned (.tuple #[.int .i64 (V l), .int .i64 (E l)]) ∧ Below w.heap.size w w'
/-- What number's closure has. -/
structure NumBox (k : Nat) (mb i j : Nat) (a b : Int) (B : Nat) (w : World) : Prop where
  told : w.cell? ⟨B, 0, none⟩ = some (.pointer (some ⟨mb, i, none⟩))
  said : w.cell? ⟨B + 1, 0, none⟩ = some (.pointer (some ⟨mb, j, none⟩))
  parse : w.cell? ⟨B + 2, 0, none⟩ = some (.func (.func k) #[] #[])
  least : w.cell? ⟨B + 3, 0, none⟩ = some (.int .i64 a)
  most : w.cell? ⟨B + 4, 0, none⟩ = some (.int .i64 b)
def numC (n x : Int) (cs : Array Value) (i j : Nat) : Array Value := if x = 0 then (cs.setIfInBounds i (.int .i64 n)).setIfInBounds j (.bool true) else cs
theorem cell_lt {w : World} {b o : Nat} {v : Value} (h : w.cell? ⟨b, o, none⟩ = some v) : b < w.heap.size := World.block_lt_of_cell? w ⟨b, o, none⟩ h
theorem NumBox.keep {k mb i j B : Nat} {a b : Int} {w w' : World} (h : NumBox k mb i j a b B w) (hk : ∀ c, c < 5 → w'.cell? ⟨B + c, 0, none⟩ = w.cell? ⟨B + c, 0, none⟩) : NumBox k mb i j a b B w' :=
  ⟨(hk 0 (by omega)).trans h.told, (hk 1 (by omega)).trans h.said, (hk 2 (by omega)).trans h.parse, (hk 3 (by omega)).trans h.least, (hk 4 (by omega)).trans h.most⟩
theorem NumBox.below {k mb i j B : Nat} {a b : Int} {w w' : World} (h : NumBox k mb i j a b B w) (hb : Below w.heap.size w w') : NumBox k mb i j a b B w' := by
  have l4 := cell_lt h.most
  exact h.keep fun c hc => hb.cell (p := ⟨B + c, 0, none⟩) (show B + c < w.heap.size by omega)
theorem NumBox.apart {k mb i j B n : Nat} {a b : Int} {w w' : World} (h : NumBox k mb i j a b B w) (hb : Apart mb n w w') (hn : B + 5 ≤ n) (hm : mb < B ∨ B + 5 ≤ mb) : NumBox k mb i j a b B w' :=
  h.keep fun c hc => hb.cell (by omega) (by omega) 0 none
/-- A closure's boxes, and the block that it tells. -/
structure BW (W : World) (B B2 mb : Nat) (p p2 : Value) (cs : Array Value) (t : TypeId) (w : World) : Prop where
  box : w.cell? ⟨B, 0, none⟩ = some p
  box2 : w.cell? ⟨B2, 0, none⟩ = some p2
  blk : Told mb cs t W w
theorem BW.drew {W w : World} {B B2 mb : Nat} {p p2 : Value} {cs : Array Value} {t : TypeId} (h : BW W B B2 mb p p2 cs t w) : BW W B B2 mb p p2 cs t w.drew := ⟨h.box, h.box2, h.blk.drew⟩
theorem BW.next {W w w' : World} {B B2 mb : Nat} {p p2 : Value} {cs : Array Value} {t : TypeId} (h : BW W B B2 mb p p2 cs t w) (hb : Below w.heap.size w w') : BW W B B2 mb p p2 cs t w' :=
  ⟨(hb.cell (p := ⟨B, 0, none⟩) (cell_lt h.box)).trans h.box, (hb.cell (p := ⟨B2, 0, none⟩) (cell_lt h.box2)).trans h.box2, h.blk.then (.of h.blk.2 hb)⟩
theorem BW.set {W w : World} {B B2 mb : Nat} {p p2 : Value} {cs : Array Value} {t : TypeId} (h : BW W B B2 mb p p2 cs t w) (h1 : mb ≠ B) (h2 : mb ≠ B2) (i : Nat) (v : Value) : BW W B B2 mb p p2 (cs.setIfInBounds i v) t (w.setCell ⟨mb, i, none⟩ v) :=
  ⟨(World.cell?_setCell_far _ _ _ _ h1).trans h.box, (World.cell?_setCell_far _ _ _ _ h2).trans h.box2, h.blk.set i v⟩
theorem BW.at {W w : World} {B B2 mb : Nat} {p p2 : Value} {cs : Array Value} {t : TypeId} (h : BW W B B2 mb p p2 cs t w) {i : Nat} {o : Value} (hi : cs[i]? = some o) : w.cell? ⟨mb, i, none⟩ = some o ∧ w.frozen? ⟨mb, i, none⟩ = false :=
  ⟨(cellOf h.blk.2 i).trans hi, freeOf h.blk.2 i⟩
theorem BW.capB {W w : World} {B B2 mb i : Nat} {p p2 o : Value} {cs : Array Value} {t : TypeId} (h : Hid (BW W B B2 mb p p2 cs t w)) (hi : cs[i]? = some o) (v : Txt) (hv : v.length ≤ 1000000000000) :
    Calls Tryz.prog 188 #[.string (mkS v)] w fun e w' => e = .returned (.string (mkS (upL v))) ∧ w'.cell? ⟨B, 0, none⟩ = some p ∧ w'.cell? ⟨mb, i, none⟩ = some o ∧ w'.frozen? ⟨mb, i, none⟩ = false ∧ Hid (BW W B B2 mb p p2 cs t w') :=
  (cap_x v w hv).mono fun _ _ ⟨he, hb⟩ => ⟨he, (h.out.next hb).box, ((h.out.next hb).at hi).1, ((h.out.next hb).at hi).2, Lib.hid (h.out.next hb)⟩
theorem keep_far {w : World} {B mb : Nat} {p : Value} (i : Nat) (v : Value) (h : mb ≠ B) (hb : w.cell? ⟨B, 0, none⟩ = some p) : (w.setCell ⟨mb, i, none⟩ v).cell? ⟨B, 0, none⟩ = some p := (World.cell?_setCell_far _ _ _ _ h).trans hb
/-- A function value that tells of a text whether it is a name. -/
def IsK (k : Nat) (p : Txt → Bool) : Prop := ∀ (l : Txt) (w : World), Calls Tryz.prog k #[.string (mkS l)] w fun e w' => e = .returned (.bool (p l)) ∧ w = w'
theorem isBody_p : IsK 199 isBody := isBody_x
theorem isRet_p : IsK 200 isRet := isRet_x
theorem Told.cells {mb : Nat} {cs cs' : Array Value} {t : TypeId} {w w' : World} (h : Told mb cs t w w') (e : cs = cs') : Told mb cs' t w w' := e ▸ h
/-- What BY does: the block's cells behind it. -/
def byC (v : Txt) (cs : Array Value) : Array Value :=
  if isMode (upL (postC 59 v)) then numC (sgV (preC 59 v)) (byE v) (cs.setIfInBounds 13 (.string (mkS (upL (postC 59 v))))) 8 3 else cs.setIfInBounds 13 (.string (mkS (upL (postC 59 v))))
end Go.Proofs.YtojpkbonioglbaaGreatDoor
/-
  The walk of what BY does to what is told of a message.
-/
namespace Go.Proofs.YtojpkbonioglbaaGreatDoor
set_option maxRecDepth 100000
open Go.RowKit
/-- What a region of BY reads. -/
def ByS (B B2 mb : Nat) (p p2 o : Value) (w : World) : Prop := w.cell? ⟨B, 0, none⟩ = some p ∧ w.cell? ⟨B2, 0, none⟩ = some p2 ∧ w.cell? ⟨mb, 13, none⟩ = some o
theorem BW.byS {W w : World} {B B2 mb : Nat} {p p2 o : Value} {cs : Array Value} {t : TypeId} (h : BW W B B2 mb p p2 cs t w) (hi : cs[13]? = some o) : w.cell? ⟨B, 0, none⟩ = some p ∧ w.cell? ⟨B2, 0, none⟩ = some p2 ∧ w.cell? ⟨mb, 13, none⟩ = some o := ⟨h.box, h.box2, (h.at hi).1⟩
theorem BW.lt {W w : World} {B B2 mb : Nat} {p p2 : Value} {cs : Array Value} {t : TypeId} (h : BW W B B2 mb p p2 cs t w) : B < w.heap.size ∧ B2 < w.heap.size ∧ mb < w.heap.size := ⟨cell_lt h.box, cell_lt h.box2, ltOf h.blk.2⟩
theorem BW.told {W w w' : World} {B B2 mb : Nat} {p p2 : Value} {cs cs' : Array Value} {t : TypeId} (h : BW W B B2 mb p p2 cs t w) (h1 : mb ≠ B) (h2 : mb ≠ B2) (k : Told mb cs' t w w') : BW W B B2 mb p p2 cs' t w' :=
  ⟨(k.1.cell h.lt.1 (Ne.symm h1) 0 none).trans h.box, (k.1.cell h.lt.2.1 (Ne.symm h2) 0 none).trans h.box2, h.blk.then k⟩
theorem old_alloc {w : World} {o p : Obj} {k : Nat} (h : w.heap[k]? = some p) : (w.alloc o).heap[k]? = some p := (Below.heap_alloc _ _ _ (ltOf h)).trans h
theorem new_alloc {w : World} {n : Nat} (o : Obj) (h : n = w.heap.size) : (w.alloc o).heap[n]? = some o := h ▸ newOf w o
theorem alloc5 (w : World) (a b c d e : Obj) : ((((((w.alloc a).alloc b).alloc c).alloc d).alloc e).heap[w.heap.size]? = some a ∧ (((((w.alloc a).alloc b).alloc c).alloc d).alloc e).heap[w.heap.size + 1]? = some b ∧
    (((((w.alloc a).alloc b).alloc c).alloc d).alloc e).heap[w.heap.size + 2]? = some c ∧ (((((w.alloc a).alloc b).alloc c).alloc d).alloc e).heap[w.heap.size + 3]? = some d ∧ (((((w.alloc a).alloc b).alloc c).alloc d).alloc e).heap[w.heap.size + 4]? = some e) ∧
    Below w.heap.size w (((((w.alloc a).alloc b).alloc c).alloc d).alloc e) ∧ (((((w.alloc a).alloc b).alloc c).alloc d).alloc e).heap.size = w.heap.size + 5 := by
  have h0 := newOf w a
  have h1 := new_alloc (w := w.alloc a) (n := w.heap.size + 1) b (by simp)
  have h2 := new_alloc (w := (w.alloc a).alloc b) (n := w.heap.size + 2) c (by simp)
  have h3 := new_alloc (w := ((w.alloc a).alloc b).alloc c) (n := w.heap.size + 3) d (by simp)
  have h4 := new_alloc (w := (((w.alloc a).alloc b).alloc c).alloc d) (n := w.heap.size + 4) e (by simp)
  refine ⟨⟨old_alloc (old_alloc (old_alloc (old_alloc h0))), old_alloc (old_alloc (old_alloc h1)), old_alloc (old_alloc h2), old_alloc h3, h4⟩, ?_, by simp⟩
  exact (((((Below.refl _ w).alloc (Nat.le_refl _) _).alloc (by simp) _).alloc (by simp; omega) _).alloc (by simp; omega) _).alloc (by simp; omega) _
theorem numC_13 {n x : Int} {cs : Array Value} {o : Value} (h : cs[13]? = some o) : (numC n x cs 8 3)[13]? = some o := by
  unfold numC
  split
  · rw [Array.getElem?_setIfInBounds_ne (by decide), Array.getElem?_setIfInBounds_ne (by decide)]; exact h
  · exact h
end Go.Proofs.YtojpkbonioglbaaGreatDoor
/-
  The walks of what NOTIFY and ORCPT do to what is told of a recipient.
-/
namespace Go.Proofs.YtojpkbonioglbaaGreatDoor
set_option maxRecDepth 100000
open Go.RowKit Go.Shelf
/-- The table of notices reads as the program's text lays it. -/
structure NotR (w : World) : Prop where
  n0 : w.cell? ⟨8, 0, none⟩ = some (.string { data := #[83, 85, 67, 67, 69, 83, 83] })
  n1 : w.cell? ⟨8, 1, none⟩ = some (.string { data := #[70, 65, 73, 76, 85, 82, 69] })
  n2 : w.cell? ⟨8, 2, none⟩ = some (.string { data := #[68, 69, 76, 65, 89] })
theorem NotR.below {w w' : World} (h : NotR w) (hb : Below w.heap.size w w') : NotR w' :=
  ⟨(hb.cell (p := ⟨_, 0, none⟩) (cell_lt h.n0)).trans h.n0, (hb.cell (p := ⟨_, 1, none⟩) (cell_lt h.n0)).trans h.n1, (hb.cell (p := ⟨_, 2, none⟩) (cell_lt h.n0)).trans h.n2⟩
theorem Tryz.idx3 (a b c : ByteArray) : (∀ w, (Instr.index 207 (.agg #[.string a, .string b, .string c]) (.int .i64 0)).run Tryz.prog w = .ok (.string a) w) ∧ (∀ w, (Instr.index 207 (.agg #[.string a, .string b, .string c]) (.int .i64 1)).run Tryz.prog w = .ok (.string b) w) ∧ (∀ w, (Instr.index 207 (.agg #[.string a, .string b, .string c]) (.int .i64 2)).run Tryz.prog w = .ok (.string c) w) := by
  have u9 := Tryz.underlying9
  have a9 := Tryz.isAgg9
  have z9 := Tryz.sizeOf9
  have hu := Tryz.underlying207
  refine ⟨fun w => ?_, fun w => ?_, fun w => ?_⟩ <;> unfold Instr.index <;> go_simp
/-- The notices by their places. -/
def IdxR : Prop := (∀ w, (Instr.index 207 (.agg #[.string { data := #[83, 85, 67, 67, 69, 83, 83] }, .string { data := #[70, 65, 73, 76, 85, 82, 69] }, .string { data := #[68, 69, 76, 65, 89] }]) (.int .i64 0)).run Tryz.prog w = .ok (.string { data := #[83, 85, 67, 67, 69, 83, 83] }) w) ∧
  (∀ w, (Instr.index 207 (.agg #[.string { data := #[83, 85, 67, 67, 69, 83, 83] }, .string { data := #[70, 65, 73, 76, 85, 82, 69] }, .string { data := #[68, 69, 76, 65, 89] }]) (.int .i64 1)).run Tryz.prog w = .ok (.string { data := #[70, 65, 73, 76, 85, 82, 69] }) w) ∧
  (∀ w, (Instr.index 207 (.agg #[.string { data := #[83, 85, 67, 67, 69, 83, 83] }, .string { data := #[70, 65, 73, 76, 85, 82, 69] }, .string { data := #[68, 69, 76, 65, 89] }]) (.int .i64 2)).run Tryz.prog w = .ok (.string { data := #[68, 69, 76, 65, 89] }) w)
theorem idxR : IdxR := Tryz.idx3 _ _ _
set_option maxHeartbeats 2000000 in
theorem ordered_x (l : Txt) (w : World) (hN : NotR w) : Calls Tryz.prog 186 #[.string (mkS l)] w fun e w' => e = .returned (.string (mkS (ordV l))) ∧ w = w' := by
  obtain ⟨c0, c1, c2⟩ := hN
  obtain ⟨x0, x1, x2⟩ := idxR
  have HV := Lib.hid (show ordV l = (if l.contains 83 = true then [83] else []) ++ (if l.contains 70 = true then [70] else []) ++ (if l.contains 68 = true then [68] else []) from rfl)
  have HS := Lib.hid (fun w => contains_x l 83 w)
  have HF := Lib.hid (fun w => contains_x l 70 w)
  have HD := Lib.hid (fun w => contains_x l 68 w)
  cases h0 : l.contains 83 <;> cases h1 : l.contains 70 <;> cases h2 : l.contains 68 <;> rw [h0, h1, h2] at HV <;> rw [h0] at HS <;> rw [h1] at HF <;> rw [h2] at HD <;> clear h0 h1 h2
  all_goals
    go_enter Tryz.func186, Tryz.ntmps186
    go_wp2_with fail
    refine wp_loop_rounds 4 ?_
    rw [rounds_succ]
    go_wp2_with fail
    refine (HS.out _).mono ?_
    rintro e w' ⟨rfl, rfl⟩
    go_wp2_with fail
    rw [rounds_succ]
    go_wp2_with fail
    refine (HF.out _).mono ?_
    rintro e w' ⟨rfl, rfl⟩
    go_wp2_with fail
    rw [rounds_succ]
    go_wp2_with fail
    refine (HD.out _).mono ?_
    rintro e w' ⟨rfl, rfl⟩
    go_wp2_with fail
    rw [rounds_succ]
    go_wp2_with fail
    go_ret
    exact ⟨by rw [HV.out]; rfl, rfl⟩
end Go.Proofs.YtojpkbonioglbaaGreatDoor
/-
  The walk of what NOTIFY's value tells.
-/
namespace Go.Proofs.YtojpkbonioglbaaGreatDoor
set_option maxRecDepth 100000
open Go.RowKit Go.Shelf
attribute [local go_sem] Oper.semAt_some
/-- A new cell, and one that lay ahead of a new block. -/
theorem one_new (w : World) (v : Value) (t : TypeId) : (w.alloc (.cells #[v] t)).cell? ⟨w.heap.size, 0, none⟩ = some v ∧ (w.alloc (.cells #[v] t)).frozen? ⟨w.heap.size, 0, none⟩ = false :=
  ⟨cellOf (newOf w _) 0, freeOf (newOf w _) 0⟩
theorem one_old {w : World} {a : Addr} {v : Value} (o : Obj) (h : w.cell? a = some v ∧ w.frozen? a = false) : (w.alloc o).cell? a = some v ∧ (w.alloc o).frozen? a = false :=
  ⟨cell_kept h.1 (World.grownBy_alloc w o none) (fun r e => by cases e), (frozen_kept h.1 (World.grownBy_alloc w o none) (fun r e => by cases e)).trans h.2⟩
theorem alloc4 (w : World) (a b c d : Obj) : (((((w.alloc a).alloc b).alloc c).alloc d).heap[w.heap.size]? = some a ∧ ((((w.alloc a).alloc b).alloc c).alloc d).heap[w.heap.size + 1]? = some b ∧
    ((((w.alloc a).alloc b).alloc c).alloc d).heap[w.heap.size + 1 + 1]? = some c ∧ ((((w.alloc a).alloc b).alloc c).alloc d).heap[w.heap.size + 1 + 1 + 1]? = some d) ∧
    Below w.heap.size w ((((w.alloc a).alloc b).alloc c).alloc d) ∧ ((((w.alloc a).alloc b).alloc c).alloc d).heap.size = w.heap.size + 4 := by
  have h0 := newOf w a
  have h1 := new_alloc (w := w.alloc a) (n := w.heap.size + 1) b (by simp)
  have h2 := new_alloc (w := (w.alloc a).alloc b) (n := w.heap.size + 1 + 1) c (by simp)
  have h3 := new_alloc (w := ((w.alloc a).alloc b).alloc c) (n := w.heap.size + 1 + 1 + 1) d (by simp)
  refine ⟨⟨old_alloc (old_alloc (old_alloc h0)), old_alloc (old_alloc h1), old_alloc h2, h3⟩, ?_, by simp⟩
  exact ((((Below.refl _ w).alloc (Nat.le_refl _) _).alloc (by simp) _).alloc (by simp; omega) _).alloc (by simp; omega) _
theorem keepsCell_set {W : World} {b c : Nat} (h : b ≠ c) (v : Value) : KeepsCell ⟨c, 0, none⟩ W (W.setCell ⟨b, 0, none⟩ v) := fun _ hv => (World.cell?_setCell_far _ _ _ _ h).trans hv
theorem Told.far {mb b : Nat} {cs : Array Value} {t : TypeId} {w w' : World} (h : Told mb cs t w w') (hb : w.heap.size ≤ b) (hne : mb ≠ b) (v : Value) : Told mb cs t w (w'.setCell ⟨b, 0, none⟩ v) :=
  ⟨⟨h.1.os, h.1.tape, h.1.output, by rw [World.size_setCell]; exact h.1.size, fun k hk hn => (Below.heap_setCell _ _ _ k (show k ≠ b by omega)).trans (h.1.block k hk hn)⟩, (Below.heap_setCell _ _ _ mb hne).trans h.2⟩
theorem Told.putD {mb D : Nat} {cs : Array Value} {t : TypeId} {w w' : World} (h : Told mb cs t w w') (hm : mb < w.heap.size) (hD : w.heap.size ≤ D) (o : Obj) : Told mb cs t w (w'.putObj D o) :=
  ⟨⟨h.1.os, h.1.tape, h.1.output, by rw [World.putObj_size]; exact h.1.size, fun k hk hn => (World.putObj_heap_other (by omega)).trans (h.1.block k hk hn)⟩, (World.putObj_heap_other (by omega)).trans h.2⟩
theorem letG_append : ∀ (a b : List Txt) (all : Txt), letG (a ++ b) all = (letG a all).bind (letG b)
  | [], _, _ => rfl
  | x :: a, b, all => by
    rw [List.cons_append, letG, letG]
    split
    · rfl
    · exact letG_append a b _
theorem letG_one (x all : Txt) : letG [x] all = if initV x = [] ∨ (∃ b ∈ initV x, b ∈ all) then none else some (all ++ initV x) := by
  rw [letG]
  split <;> rfl
theorem init_cases (n : Txt) : initV n = [] ∨ ∃ c, initV n = [c] := by
  unfold initV
  by_cases h0 : n = tSU
  · rw [if_pos h0]; exact .inr ⟨_, rfl⟩
  · rw [if_neg h0]
    by_cases h1 : n = tFA
    · rw [if_pos h1]; exact .inr ⟨_, rfl⟩
    · rw [if_neg h1]
      by_cases h2 : n = tDE
      · rw [if_pos h2]; exact .inr ⟨_, rfl⟩
      · rw [if_neg h2]; exact .inl rfl
theorem cap_map (c : UInt8) (s : Txt) (hs : s.length ≤ 1000000000) : (splitC c s).map capL = splitC c s := by
  have : (splitC c s).map capL = (splitC c s).map id := List.map_congr_left fun x hx => capL_id (Nat.le_trans (splitC_le c s x hx) hs)
  rw [this, List.map_id]
def notC (v : Txt) (cs : Array Value) (i : Nat) : Array Value := if notE v = 0 then cs.setIfInBounds i (.string (mkS (notV v))) else cs
theorem not_yes {v a : Txt} (hv : v ≠ tNE) (h : letG (splitC 44 v) [] = some a) : notE v = 0 ∧ notV v = ordV a := by
  have : notL v = some (ordV a) := by rw [notL, if_neg hv, h]; rfl
  unfold notE notV
  rw [this]
  exact ⟨rfl, rfl⟩
theorem not_no {v : Txt} (hv : v ≠ tNE) (h : letG (splitC 44 v) [] = none) : notE v = 2 := by
  have : notL v = none := by rw [notL, if_neg hv, h]; rfl
  unfold notE
  rw [this]
  rfl
theorem letN_yes (cs : Array Value) {i : Nat} {v a : Txt} (hv : v ≠ tNE) (h : letG (splitC 44 v) [] = some a) : notC v cs i = cs.setIfInBounds i (.string (mkS (ordV a))) := by
  rw [notC, if_pos (not_yes hv h).1, (not_yes hv h).2]
theorem letN_no (cs : Array Value) {i : Nat} {v : Txt} (hv : v ≠ tNE) (h : letG (splitC 44 v) [] = none) : notC v cs i = cs := by
  rw [notC, if_neg (by rw [not_no hv h]; decide)]
theorem not_never : notE tNE = 0 ∧ notV tNE = [78] := by decide +kernel
end Go.Proofs.YtojpkbonioglbaaGreatDoor
/-
  A map with texts as keys: what it holds, told by a function; the laws at its operations.
-/
namespace Go.Proofs.YtojpkbonioglbaaGreatDoor
set_option maxRecDepth 100000
open Go.RowKit Go.Maps Go.ChangeMaps
def valR (v : Value) : Option (DataW Value × List MemPlace) := some (.held v, [])
/-- BLOCK b IS A MAP OF n ENTRIES AT MOST THAT HOLDS WHAT f SAYS. -/
def MapIs (w : World) (b n : Nat) (f : Txt → Option Value) : Prop :=
  ∃ D : DataW Value, w.ownsMap Tryz.prog 9 valR b n D ∧ ∀ k : Txt, Maps.has D (.string k) = (f k).isSome ∧ ∀ z, D.atKey (.string k) z = match f k with | some v => .held v | none => z
def updF (f : Txt → Option Value) (k : Txt) (v : Value) : Txt → Option Value := fun k' => if k' = k then some v else f k'
theorem lawS : Keyed Tryz.prog 9 := string_keyed Tryz.underlying9
theorem keyS {k : Txt} (hk : k.length ≤ 1000000000) : keyOf Tryz.prog 9 (.string (mkS k)) = some (.string k) := by
  have := Go.WideMaps.keyOf_string_mk Tryz.underlying9 (s := mkS k) (by rw [mkS_size]; unfold maxLen; omega)
  rwa [mkS_data] at this
theorem MapIs.made (w : World) : MapIs (w.alloc (.map #[] 0)) w.heap.size 0 fun _ => none := ⟨_, World.ownsMap_made w _ _ _, fun _ => ⟨rfl, fun _ => rfl⟩⟩
theorem MapIs.kept {w w' : World} {b n : Nat} {f : Txt → Option Value} {row : Option Nat} (h : MapIs w b n f) (hg : w.grownBy w' row) (hne : some b ≠ row) : MapIs w' b n f := by
  obtain ⟨D, h1, h2⟩ := h
  exact ⟨D, h1.kept hg hne, h2⟩
theorem MapIs.lt {w : World} {b n : Nat} {f : Txt → Option Value} (h : MapIs w b n f) : b < w.heap.size := by
  obtain ⟨D, h1, _⟩ := h
  exact h1.lt
theorem MapIs.block {w w' : World} {b n : Nat} {f : Txt → Option Value} (h : MapIs w b n f) (hb : w'.heap[b]? = w.heap[b]?) : MapIs w' b n f := by
  obtain ⟨D, ⟨es, clock, h0, r⟩, h2⟩ := h
  exact ⟨D, ⟨es, clock, hb.trans h0, r⟩, h2⟩
theorem MapIs.congr {w : World} {b n : Nat} {f g : Txt → Option Value} (h : MapIs w b n f) (e : ∀ k, f k = g k) : MapIs w b n g := (funext e : f = g) ▸ h
theorem MapIs.isMap {w : World} {b n : Nat} {f : Txt → Option Value} (h : MapIs w b n f) : ∃ es clock, w.heap[b]? = some (.map es clock) := by
  obtain ⟨D, ⟨es, clock, h0, r⟩, h2⟩ := h
  exact ⟨es, clock, h0⟩
theorem MapIs.put {w : World} {b n : Nat} {f : Txt → Option Value} (h : MapIs w b n f) {t e : TypeId} (ht : Tryz.prog.underlying t = some (.map 9 e)) (hn : n ≤ 1000000000000) {k : Txt} (hk : k.length ≤ 1000000000) (v : Value) :
    ∃ w', (Instr.mapUpdate t (.map (some b)) (.string (mkS k)) v).run Tryz.prog w = .ok () w' ∧ MapIs w' b (n + 1) (updF f k v) ∧ w.grownBy w' (some b) := by
  obtain ⟨D, h1, h2⟩ := h
  obtain ⟨w', e1, e2, e3⟩ := h1.update lawS ht (by unfold maxLen; omega) (keyS hk) (show valR v = some (.held v, []) from rfl)
  refine ⟨w', e1, ⟨_, e2, fun k' => ?_⟩, e3⟩
  have hI := h1.isMap
  by_cases he : k' = k
  · subst he
    have hkl : WideAt.IsKeyLit (.string k') := by simp [WideAt.IsKeyLit]
    rw [updF, if_pos rfl]
    exact ⟨has_put_same hI hkl _, fun z => atKey_put_same hI hkl _ z⟩
  · have hne : (Lit.string k') ≠ .string k := fun e => he (by injection e)
    rw [updF, if_neg he, has_put_other hne]
    refine ⟨(h2 k').1, fun z => ?_⟩
    rw [atKey_put_other hne]
    exact (h2 k').2 z
theorem MapIs.look {w : World} {b n : Nat} {f : Txt → Option Value} (h : MapIs w b n f) {t e : TypeId} (ht : Tryz.prog.underlying t = some (.map 9 e)) {z : Value} (hz : (zeroValue e).run Tryz.prog w = .ok z w) {k : Txt} (hk : k.length ≤ 1000000000) :
    (Instr.lookup t (.map (some b)) (.string (mkS k)) false).run Tryz.prog w = .ok ((f k).getD z) w := by
  obtain ⟨D, h1, h2⟩ := h
  obtain ⟨v, ps, e1, e2⟩ := h1.lookup lawS ht hz (show valR z = some (.held z, []) from rfl) (keyS hk)
  rw [e1]
  rw [(h2 k).2] at e2
  cases hf : f k <;> rw [hf] at e2 <;> simp only [valR, Option.some.injEq, Prod.mk.injEq, DataW.held.injEq] at e2
  · rw [e2.1]; rfl
  · rw [e2.1]; rfl
theorem MapIs.look_ok {w : World} {b n : Nat} {f : Txt → Option Value} (h : MapIs w b n f) {t e : TypeId} (ht : Tryz.prog.underlying t = some (.map 9 e)) {z : Value} (hz : (zeroValue e).run Tryz.prog w = .ok z w) {k : Txt} (hk : k.length ≤ 1000000000) :
    (Instr.lookup t (.map (some b)) (.string (mkS k)) true).run Tryz.prog w = .ok (.tuple #[(f k).getD z, .bool (f k).isSome]) w := by
  obtain ⟨D, h1, h2⟩ := h
  obtain ⟨v, ps, e1, e2⟩ := h1.look_ok lawS ht hz (show valR z = some (.held z, []) from rfl) (keyS hk)
  rw [e1, (h2 k).1]
  rw [(h2 k).2] at e2
  cases hf : f k <;> rw [hf] at e2 <;> simp only [valR, Option.some.injEq, Prod.mk.injEq, DataW.held.injEq] at e2
  · rw [e2.1]; rfl
  · rw [e2.1]; rfl

section
variable (w : World) {ops : Array Oper} {rest : List Oper} {o : Oper} {a : Act} {Q : Exit → Act → World → Prop}
theorem wpList_insert_map (hg : o.guard = none) (m x v : Operand) (t e : TypeId) (hop : o.op = Op.insert t m x v) (ht : Tryz.prog.underlying t = some (.map 9 e)) (b n : Nat) (f : Txt → Option Value)
    (hm : a.eval m = .map (some b)) (hown : MapIs w b n f) (hn : n ≤ 1000000000000) (k : Txt) (val : Value) (hx : a.eval x = .string (mkS k)) (hk : k.length ≤ 1000000000) (hv : a.eval v = val)
    (hK : ∀ w', MapIs w' b (n + 1) (updF f k val) → w.grownBy w' (some b) → wpList Tryz.prog ops Q rest (a.put o.dst undef) w') :
    wpList Tryz.prog ops Q (o :: rest) a w := by
  refine wpList_plain hg fun K' hK' => ?_
  obtain ⟨w', hrun, r1, r2⟩ := hown.put ht hn hk val
  unfold Oper.wp
  simp [execOp, hop, hm, hx, hv, hrun, Result.andThen]
  exact hK' _ _ (hK w' r1 r2)
variable {F : Fence} {nF : Nat}
theorem wpListIn_update_map (hg : o.guard = none) (m x v : Operand) (t e : TypeId) (hop : o.op = Op.mapUpdate t m x v) (ht : Tryz.prog.underlying t = some (.map 9 e)) (b n : Nat) (f : Txt → Option Value)
    (hm : a.eval m = .map (some b)) (hown : MapIs w b n f) (hn : n ≤ 1000000000000) (k : Txt) (val : Value) (hx : a.eval x = .string (mkS k)) (hk : k.length ≤ 1000000000) (hv : a.eval v = val)
    (hK : ∀ w', MapIs w' b (n + 1) (updF f k val) → w.grownBy w' (some b) → wpListIn F nF Tryz.prog ops Q rest (a.put o.dst undef) w') :
    wpListIn F nF Tryz.prog ops Q (o :: rest) a w := by
  refine wpListIn_plain hg fun K' hK' => ?_
  obtain ⟨w', hrun, r1, r2⟩ := hown.put ht hn hk val
  unfold Oper.wpIn
  refine ⟨by simp [Oper.about, hop], ?_⟩
  rw [Oper.semAt_plain F _ _ (by rw [hop]; intro c hc'; cases hc')]
  simp [execOp, hop, hm, hx, hv, hrun, Result.andThen]
  exact hK' _ _ (hK w' r1 r2)
end
end Go.Proofs.YtojpkbonioglbaaGreatDoor
/-
  The walk of param's read: words one by one, what a map of functions does of each.
-/
namespace Go.Proofs.YtojpkbonioglbaaGreatDoor
set_option maxRecDepth 100000
open Go.RowKit Go.Shelf
attribute [local go_sem] Oper.semAt_some
theorem alloc6 (w : World) (a b c d e f : Obj) : ((((((((w.alloc a).alloc b).alloc c).alloc d).alloc e).alloc f).heap[w.heap.size]? = some a ∧ ((((((w.alloc a).alloc b).alloc c).alloc d).alloc e).alloc f).heap[w.heap.size + 1]? = some b ∧
    ((((((w.alloc a).alloc b).alloc c).alloc d).alloc e).alloc f).heap[w.heap.size + 2]? = some c ∧ ((((((w.alloc a).alloc b).alloc c).alloc d).alloc e).alloc f).heap[w.heap.size + 3]? = some d ∧
    ((((((w.alloc a).alloc b).alloc c).alloc d).alloc e).alloc f).heap[w.heap.size + 4]? = some e ∧ ((((((w.alloc a).alloc b).alloc c).alloc d).alloc e).alloc f).heap[w.heap.size + 5]? = some f) ∧
    Below w.heap.size w ((((((w.alloc a).alloc b).alloc c).alloc d).alloc e).alloc f)) ∧ ((((((w.alloc a).alloc b).alloc c).alloc d).alloc e).alloc f).heap.size = w.heap.size + 6 := by
  obtain ⟨⟨h0, h1, h2, h3, h4⟩, hb, hs⟩ := alloc5 w a b c d e
  have h5 := new_alloc (w := ((((w.alloc a).alloc b).alloc c).alloc d).alloc e) (n := w.heap.size + 5) f hs.symm
  exact ⟨⟨⟨old_alloc h0, old_alloc h1, old_alloc h2, old_alloc h3, old_alloc h4, h5⟩, hb.alloc (by omega) _⟩, by simp⟩
/-- What stands in read's loop. -/
structure RJ {σ : Type} (C : σ → Array Value) (t : TypeId) (mb M : Nat) (w : World) (st : σ) (ks : List Txt) (c : Nat) (W : World) : Prop where
  ap : Apart mb w.heap.size w W
  blk : W.heap[mb]? = some (.cells (C st) t (0, 0))
  dob : W.cell? ⟨w.heap.size, 0, none⟩ = some (.map (some M))
  res : W.cell? ⟨w.heap.size + 1, 0, none⟩ = some (.int .i64 0)
  resf : W.frozen? ⟨w.heap.size + 1, 0, none⟩ = false
  sbx : W.cell? ⟨w.heap.size + 3, 0, none⟩ = some (.map (some (w.heap.size + 2)))
  said : MapIs W (w.heap.size + 2) c fun k => if k ∈ ks then some (.int .i64 1) else none
section
variable {σ : Type} {C : σ → Array Value} {t : TypeId} {mb M : Nat} {w W W' : World} {st : σ} {ks : List Txt} {c : Nat}
theorem RJ.next (h : RJ C t mb M w st ks c W) (hb : Below W.heap.size W W') : RJ C t mb M w st ks c W' :=
  ⟨h.ap.next (.of hb), (hb.block _ (ltOf h.blk)).trans h.blk, (hb.cell (p := ⟨_, 0, none⟩) (cell_lt h.dob)).trans h.dob, (hb.cell (p := ⟨_, 0, none⟩) (cell_lt h.res)).trans h.res, (hb.frozen (p := ⟨_, 0, none⟩) (cell_lt h.res)).trans h.resf,
    (hb.cell (p := ⟨_, 0, none⟩) (cell_lt h.sbx)).trans h.sbx, h.said.block (hb.block _ h.said.lt)⟩
theorem Apart.frozen {mb n : Nat} {a w : World} (h : Apart mb n a w) {b : Nat} (hb : b < n) (hne : b ≠ mb) (o : Nat) (x : Option Nat) : w.frozen? ⟨b, o, x⟩ = a.frozen? ⟨b, o, x⟩ := by
  simp only [World.frozen?, h.block b hb hne]
theorem RJ.told {st' : σ} (h : RJ C t mb M w st ks c W) (hm : mb < w.heap.size) (ha : Apart mb W.heap.size W W') (hb : W'.heap[mb]? = some (.cells (C st') t (0, 0))) : RJ C t mb M w st' ks c W' :=
  ⟨h.ap.next ha, hb, (ha.cell (cell_lt h.dob) (by omega) 0 none).trans h.dob, (ha.cell (cell_lt h.res) (by omega) 0 none).trans h.res, (ha.frozen (cell_lt h.res) (by omega) 0 none).trans h.resf, (ha.cell (cell_lt h.sbx) (by omega) 0 none).trans h.sbx,
    h.said.block (ha.block _ h.said.lt (by omega))⟩
theorem RJ.put {k : Txt} (h : RJ C t mb M w st ks c W) (hm : mb < w.heap.size) (hs : MapIs W' (w.heap.size + 2) (c + 1) (updF (fun k => if k ∈ ks then some (.int .i64 1) else none) k (.int .i64 1))) (hg : W.grownBy W' (some (w.heap.size + 2))) : RJ C t mb M w st (k :: ks) (c + 1) W' := by
  have hne : ∀ b, b ≠ w.heap.size + 2 → some b ≠ some (w.heap.size + 2) := fun b hb e => hb (by injection e)
  refine ⟨⟨hg.os.trans h.ap.os, hg.tape.trans h.ap.tape, hg.output.trans h.ap.output, Nat.le_trans h.ap.size hg.size, fun b hb hne' => (hg.block b (Nat.lt_of_lt_of_le hb h.ap.size) (hne b (by omega))).trans (h.ap.block b hb hne')⟩, (hg.block mb (ltOf h.blk) (hne mb (by omega))).trans h.blk, ?_, ?_, ?_, ?_, ?_⟩
  · rw [← h.dob]; simp only [World.cell?, hg.block _ (cell_lt h.dob) (hne _ (by omega))]
  · rw [← h.res]; simp only [World.cell?, hg.block _ (cell_lt h.res) (hne _ (by omega))]
  · rw [← h.resf]; simp only [World.frozen?, hg.block _ (cell_lt h.res) (hne _ (by omega))]
  · rw [← h.sbx]; simp only [World.cell?, hg.block _ (cell_lt h.sbx) (hne _ (by omega))]
  · have e : updF (fun k => if k ∈ ks then some (.int .i64 1) else none) k (.int .i64 1) = fun k' => if k' ∈ k :: ks then some (Value.int .i64 1) else none := by
      funext k'
      unfold updF
      by_cases h1 : k' = k
      · simp [h1]
      · simp [h1]
    rw [← e]; exact hs
theorem RJ.own (B : Nat) (hm : mb < w.heap.size) (hB : w.heap.size + 6 ≤ B) {row : Option Nat} (h : RJ C t mb M w st ks c W) (hg : W.grownBy W' row) (hr : ∀ r, row = some r → B ≤ r ∧ ∃ o : Obj, W.heap[r]? = some o ∧ o.isCells = false) : RJ C t mb M w st ks c W' := by
  have hne : ∀ b, b < B → some b ≠ row := fun b hb e => by have := (hr b e.symm).1; omega
  refine ⟨⟨hg.os.trans h.ap.os, hg.tape.trans h.ap.tape, hg.output.trans h.ap.output, Nat.le_trans h.ap.size hg.size, fun b hb hne' => (hg.block b (Nat.lt_of_lt_of_le hb h.ap.size) (hne b (by omega))).trans (h.ap.block b hb hne')⟩, (hg.block mb (ltOf h.blk) (hne mb (by omega))).trans h.blk, ?_, ?_, ?_, ?_, h.said.kept hg (hne _ (by omega))⟩
  · rw [← h.dob]; simp only [World.cell?, hg.block _ (cell_lt h.dob) (hne _ (by omega))]
  · rw [← h.res]; simp only [World.cell?, hg.block _ (cell_lt h.res) (hne _ (by omega))]
  · rw [← h.resf]; simp only [World.frozen?, hg.block _ (cell_lt h.res) (hne _ (by omega))]
  · rw [← h.sbx]; simp only [World.cell?, hg.block _ (cell_lt h.sbx) (hne _ (by omega))]
theorem apart_own {β : Type} (B : Nat) (hB : w.heap.size ≤ B) (mb : Nat) : OwnFrom B (fun (_ : β) W => Apart mb w.heap.size w W) := fun _ _ _ row h hg hr =>
  ⟨hg.os.trans h.os, hg.tape.trans h.tape, hg.output.trans h.output, Nat.le_trans h.size hg.size, fun b hb hne' => (hg.block b (Nat.lt_of_lt_of_le hb h.size) (fun e => by have := (hr b e.symm).1; omega)).trans (h.block b hb hne')⟩
theorem keepsFrom_apart {B : Nat} (hm : mb < B) (h : Apart mb W.heap.size W W') : KeepsFrom B W W' := ⟨h.size, fun k o hB hk _ => (h.block k (ltOf hk) (by omega)).trans hk⟩
theorem keepsCell_apart {b : Nat} (hm : mb ≠ b) (h : Apart mb W.heap.size W W') : KeepsCell ⟨b, 0, none⟩ W W' := fun _ hv => (h.cell (cell_lt hv) (Ne.symm hm) 0 none).trans hv
theorem keepsCell_grown {b c : Nat} (hne : b ≠ c) (h : W.grownBy W' (some c)) : KeepsCell ⟨b, 0, none⟩ W W' := fun _ hv => by
  rw [← hv]; simp only [World.cell?, h.block _ (cell_lt hv) (fun e => hne (by injection e))]
end
theorem Apart.far {mb n b : Nat} {a w : World} (h : Apart mb n a w) (hb : n ≤ b) (v : Value) : Apart mb n a (w.setCell ⟨b, 0, none⟩ v) :=
  ⟨h.os, h.tape, h.output, by rw [World.size_setCell]; exact h.size, fun k hk hn => (Below.heap_setCell _ _ _ k (show k ≠ b by omega)).trans (h.block k hk hn)⟩
theorem Apart.putD {mb n D : Nat} {a w : World} (h : Apart mb n a w) (hD : n ≤ D) (o : Obj) : Apart mb n a (w.putObj D o) :=
  ⟨h.os, h.tape, h.output, by rw [World.putObj_size]; exact h.size, fun k hk hn => (World.putObj_heap_other (by omega)).trans (h.block k hk hn)⟩
/-- What a key's function does of a value, in a world that is W1 but for block mb. -/
def DoesP {σ : Type} (C : σ → Array Value) (t : TypeId) (mb : Nat) (err : Txt → Txt → Int) (set : Txt → Txt → σ → σ) (W1 : World) (k : Txt) (v : Value) : Prop :=
  ∃ g bs, v = .func (.func g) #[] bs ∧ (∀ args w, (callFunc g args).run Tryz.prog w = .ok (.enter g args) w) ∧ ∀ (w : World) (st : σ) (x : Txt), x.length ≤ 1000000000 → Apart mb W1.heap.size W1 w → w.heap[mb]? = some (.cells (C st) t (0, 0)) →
    Calls Tryz.prog g (#[.string (mkS x)] ++ bs) w fun e w' => e = .returned (.int .i64 (err k x)) ∧ Apart mb w.heap.size w w' ∧ (err k x = 0 → w'.heap[mb]? = some (.cells (C (set k x st)) t (0, 0)))
def rdE (isK : Txt → Bool) (err : Txt → Txt → Int) (s : Txt) : Int := if s = [] then 0 else errs isK err [] (splitC 32 s)
def rdS {σ : Type} (set : Txt → Txt → σ → σ) (s : Txt) (st : σ) : σ := if s = [] then st else fin set (splitC 32 s) st
def ReadPost {σ : Type} (C : σ → Array Value) (t : TypeId) (mb : Nat) (isK : Txt → Bool) (err : Txt → Txt → Int) (set : Txt → Txt → σ → σ) (s : Txt) (st : σ) (w : World) (e : Ending) (w' : World) : Prop :=
  e = .returned (.int .i64 (rdE isK err s)) ∧ Apart mb w.heap.size w w' ∧ (rdE isK err s = 0 → w'.heap[mb]? = some (.cells (C (rdS set s st)) t (0, 0)))
theorem errs_snoc {isK : Txt → Bool} {err : Txt → Txt → Int} {ws : List Txt} (x : Txt) (h : errs isK err [] ws = 0) : errs isK err [] (ws ++ [x]) = wordE isK err (ws.map keyW).reverse x := by
  rw [errs_append, if_pos h, List.append_nil, errs]
  by_cases h2 : wordE isK err (ws.map keyW).reverse x = 0
  · rw [if_pos h2, h2]; rfl
  · rw [if_neg h2]
theorem zero3 (w : World) : (zeroValue 3).run Tryz.prog w = .ok (.int .i64 0) w := by
  have h : Tryz.t3.zero = some (.int .i64 0) := by kernel_rfl
  unfold zeroValue
  go_simp
end Go.Proofs.YtojpkbonioglbaaGreatDoor
/-
  The walks of what a recipient's keys do, and of ofRcpt.
-/
namespace Go.Proofs.YtojpkbonioglbaaGreatDoor
set_option maxRecDepth 100000
open Go.RowKit
def orE (v : Txt) : Int := if isKind (upL (preC 59 v)) then decdE (postC 59 v) 256 else 2
def orC (v : Txt) (cs : Array Value) : Array Value := if isKind (upL (preC 59 v)) then decC (postC 59 v) 256 (cs.setIfInBounds 1 (.string (mkS (upL (preC 59 v))))) 2 else cs.setIfInBounds 1 (.string (mkS (upL (preC 59 v))))
def rCells (r : RL) : Array Value := #[.string (mkS r.no), .string (mkS r.kind), .string (mkS r.oc)]
end Go.Proofs.YtojpkbonioglbaaGreatDoor
